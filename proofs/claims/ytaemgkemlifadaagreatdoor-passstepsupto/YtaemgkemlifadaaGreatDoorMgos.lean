/-
  Several texts in one (If Tr Ts Tj Fc La Lb).
-/
import Derived.Test.YtaemgkemlifadaaGreatDoorMgns
import Derived.Test.YtaemgkemlifadaaGreatDoorMgks
import Derived.Test.YtaemgkemlifadaaGreatDoorMgds
import Derived.Test.YtaemgkemlifadaaGreatDoorMgms
import Derived.Test.YtaemgkemlifadaaGreatDoorMges
import Derived.Sort.LoopGhostIn
import Derived.Test.YtaemgkemlifadaaGreatDoorMgcs
namespace Go.Proofs
open Go.RowKit Go.Shelf
set_option maxRecDepth 100000
attribute [local go_sem] Oper.semAt_some
attribute [local go_sem ↓] Go.wp_at_zero Go.wp_at_succ
def fs1 (x:Stp):List Value:=[.int .i64 x.r,.int .i64 x.d,.int .i64 x.l,.int .i64 x.t,.int .i64 x.a,.int .i64 x.b]
def fs (xs:List Stp):List Value:=xs.flatMap fs1
theorem fs_append (l k:List Stp):fs (l++k)=fs l++fs k:=by simp [fs]
theorem fs_one (l:List Stp):∀ u∈fs l,u.oneCell'=true:=by
 intro u hu
 simp only [fs,List.mem_flatMap] at hu
 obtain ⟨x,_,hx⟩:=hu
 simp only [fs1,List.mem_cons,List.not_mem_nil,or_false] at hx
 rcases hx with rfl | rfl | rfl | rfl | rfl | rfl <;> rfl
def OwnS (w:World) (base:Nat) (v:Value) (l:List Stp):Prop:=w.ownsRow base 47 6 v l.length (fs l)
theorem OwnS.nil (w:World) (base:Nat):OwnS w base (.slice none 0 0) []:=World.ownsRow_nil _ _ _ _
theorem OwnS.below {w w':World} {base n:Nat} {v:Value} {l:List Stp} (h:OwnS w base v l) (hb:Below n w w') (hn:w.heap.size≤n):OwnS w' base v l:=by
 refine ⟨h.1,?_⟩
 rcases h.2 with h1 | ⟨g,cap,cur,h1,h2,h3,h4⟩
 · exact .inl h1
 · exact .inr ⟨g,cap,cur,h1,h2,blk_below h3 hb (by have:=blk_lt h3;omega),h4⟩
theorem OwnS.turn {w w':World} {base:Nat} {v:Value} {l:List Stp} (h:OwnS w base v l) (hk:∀ b,base≤b→w'.heap[b]? = w.heap[b]?):OwnS w' base v l:=by
 refine ⟨h.1,?_⟩
 rcases h.2 with h1 | ⟨g,cap,cur,h1,h2,h3,h4⟩
 · exact .inl h1
 · exact .inr ⟨g,cap,cur,h1,h2,(hk g h2).trans h3,h4⟩
theorem row_blk {w:World} {base size n:Nat} {e:TypeId} {v:Value} {xs:List Value} (h:w.ownsRow base e size v n xs):v.ownBlock=none∨∃ g cur,v.ownBlock=some g∧base≤g∧w.heap[g]? = some (.cells cur e (0,0)):=by
 rcases h.2 with ⟨rfl,_⟩ | ⟨g,cap,cur,rfl,h2,h3,_⟩
 · exact .inl rfl
 · exact .inr ⟨g,cur,rfl,h2,h3⟩
structure GS (w1:World) (op:Nat) (wr:World) (uv sv lv:Value) (d:List Int) (xs:List Stp) (l:List Int):Prop where
 blk:wr.heap[op]? = some (.cells #[uv,sv] 80 (0,0))
 own:OwnI wr (op+1) uv d
 ows:OwnS wr (op+1) sv xs
 lef:IR wr lv l
 lap:l≠[]→∀ g,lv.ownBlock=some g→g≠op∧uv.ownBlock≠some g∧sv.ownBlock≠some g∧g<wr.heap.size
 bel:Below op w1 wr
theorem ir_some {w:World} {v:Value} {l:List Int} (h:IR w v l) (hl:l≠[]):∃ g o n c,v = .slice (some ⟨g,o,none⟩) n c∧l.length=n∧n≤c∧IRd w g o l:=by
 obtain ⟨a,c,rfl,hc,hr⟩:=h
 obtain ⟨g,o,rfl,hd⟩:=hr.resolve_left hl
 exact ⟨g,o,_,c,rfl,rfl,hc,hd⟩
theorem ir_turn {w w':World} {v:Value} {l:List Int} (h:IR w v l) (hk:l≠[]→∀ g,v.ownBlock=some g→w'.heap[g]? = w.heap[g]?):IR w' v l:=by
 by_cases hl:l=[]
 · subst hl
   obtain ⟨a,c,rfl,hc,_⟩:=h
   exact ⟨a,c,rfl,hc,.inl rfl⟩
 · obtain ⟨g,o,n,c,rfl,h1,h2,hd⟩:=ir_some h hl
   exact ⟨_,c,by rw [h1],by omega,.inr ⟨g,o,rfl,fun j hj=>(cell_same (hk hl g rfl)).trans (hd j hj)⟩⟩
theorem GS.grown {w1:World} {op:Nat} {wr wr':World} {uv sv lv:Value} {d:List Int} {xs:List Stp} {l:List Int} (h:GS w1 op wr uv sv lv d xs l) (k:Grown wr wr'):GS w1 op wr' uv sv lv d xs l:=
 ⟨blk_below h.blk k.below (blk_lt h.blk),h.own.below k.below (Nat.le_refl _),h.ows.below k.below (Nat.le_refl _),h.lef.grown k,fun hl g hg=>by
  obtain ⟨a,b,c,e⟩:=h.lap hl g hg
  exact ⟨a,b,c,Nat.lt_of_lt_of_le e k.size⟩,h.bel.trans (k.below.mono (by have:=h.bel.size;have:=blk_lt h.blk;omega))⟩
theorem GS.apart {w1:World} {op:Nat} {wr:World} {uv sv lv:Value} {d:List Int} {xs:List Stp} {l:List Int} (h:GS w1 op wr uv sv lv d xs l):(uv.ownBlock=none∨uv.ownBlock≠sv.ownBlock)∧uv.ownBlock≠some op∧sv.ownBlock≠some op∧(∀ g,uv.ownBlock=some g→g<wr.heap.size)∧(∀ g,sv.ownBlock=some g→g<wr.heap.size):=by
 have h1:=row_blk h.own
 have h2:=row_blk h.ows
 refine ⟨?_,?_,?_,?_,?_⟩
 · rcases h1 with h1 | ⟨g,cur,h1,_,h3⟩
   · exact .inl h1
   · refine .inr fun e => ?_
     rcases h2 with h2 | ⟨g',cur',h2,_,h4⟩
     · rw [h1,h2] at e;cases e
     · rw [h1,h2] at e
       injection e with e
       subst e
       rw [h3] at h4
       injection h4 with h4
       injection h4 with _ h4
       cases h4
 · intro e
   rcases h1 with h1 | ⟨g,cur,h1,h5,_⟩
   · rw [h1] at e;cases e
   · rw [h1] at e;injection e with e;omega
 · intro e
   rcases h2 with h2 | ⟨g,cur,h2,h5,_⟩
   · rw [h2] at e;cases e
   · rw [h2] at e;injection e with e;omega
 · intro g hg
   rcases h1 with h1 | ⟨g',cur,h1,_,h3⟩
   · rw [h1] at hg;cases hg
   · rw [h1] at hg;injection hg with hg;subst hg;exact blk_lt h3
 · intro g hg
   rcases h2 with h2 | ⟨g',cur,h2,_,h3⟩
   · rw [h2] at hg;cases hg
   · rw [h2] at hg;injection hg with hg;subst hg;exact blk_lt h3
theorem GS.unit {w1:World} {op:Nat} {wr w2:World} {uv sv lv:Value} {d e:List Int} {xs:List Stp} {l:List Int} (h:GS w1 op wr uv sv lv d xs l) {g n cap:Nat} (ho:w2.ownsRow (op+1) 3 1 (.slice (some ⟨g,0,none⟩) n cap) n (ints (d++e))) (hn:n=(d++e).length) (hg:wr.grownBy w2 uv.ownBlock) (hG:uv.ownBlock=some g∨g=wr.heap.size) :
 GS w1 op (w2.setCell ⟨op,0,none⟩ (.slice (some ⟨g,0,none⟩) n cap)) (.slice (some ⟨g,0,none⟩) n cap) sv lv (d++e) xs l:=by
 obtain ⟨ap1,ap2,ap3,ap4,ap5⟩:=h.apart
 have hop:=blk_lt h.blk
 have hsz:w2.heap.size≤(w2.setCell ⟨op,0,none⟩ (.slice (some ⟨g,0,none⟩) n cap)).heap.size:=by simp
 have hb:w2.heap[op]? = some (.cells #[uv,sv] 80 (0,0)):=(hg.block op hop (fun x=>ap2 x.symm)).trans h.blk
 have ht:∀ b,op+1≤b→(w2.setCell ⟨op,0,none⟩ (.slice (some ⟨g,0,none⟩) n cap)).heap[b]? = w2.heap[b]? := fun b hb=>turns_set _ _ _ _ b (by omega)
 refine ⟨by rw [set_heap hb];rfl,?_,?_,?_,fun hl g' hg' => ?_,?_⟩
 · exact OwnI.turn (l:=d++e) (by unfold OwnI;rw [←hn];exact ho) ht
 · refine OwnS.turn (World.ownsRow.kept h.ows hg ?_) ht
   rcases ap1 with ap1 | ap1
   · rw [ap1]
     cases hs:sv.ownBlock with
     | none=>exact .inl rfl
     | some x=>exact .inr (by simp)
   · exact .inr fun x=>ap1 x.symm
 · refine ir_turn h.lef fun hl g' hg' => ?_
   obtain ⟨q1,q2,q3,q4⟩:=h.lap hl g' hg'
   rw [turns_set _ _ _ _ g' q1]
   exact hg.block g' q4 (fun x=>q2 x.symm)
 · obtain ⟨q1,q2,q3,q4⟩:=h.lap hl g' hg'
   refine ⟨q1,fun x => ?_,q3,by have:=hg.size;omega⟩
   have e1:g=g':=by simpa [Value.ownBlock] using x
   rcases hG with hG | hG
   · rw [e1] at hG;exact q2 hG
   · omega
 · exact ((h.bel.grown hg (by have:=h.bel.size;have:=hg.size;omega) (fun k hk=>by
    rcases row_blk h.own with h1 | ⟨g',_,h1,h2,_⟩
    · rw [h1] at hk;cases hk
    · rw [h1] at hk;injection hk with hk;omega)).setCell (Nat.le_refl _) _)
theorem GS.step {w1:World} {op:Nat} {wr w2:World} {uv sv lv:Value} {d:List Int} {xs e:List Stp} {l:List Int} (h:GS w1 op wr uv sv lv d xs l) {g n cap:Nat} (ho:w2.ownsRow (op+1) 47 6 (.slice (some ⟨g,0,none⟩) n cap) n (fs (xs++e))) (hn:n=(xs++e).length) (hg:wr.grownBy w2 sv.ownBlock) (hG:sv.ownBlock=some g∨g=wr.heap.size) :
 GS w1 op (w2.setCell ⟨op,1,none⟩ (.slice (some ⟨g,0,none⟩) n cap)) uv (.slice (some ⟨g,0,none⟩) n cap) lv d (xs++e) l:=by
 obtain ⟨ap1,ap2,ap3,ap4,ap5⟩:=h.apart
 have hop:=blk_lt h.blk
 have hsz:w2.heap.size≤(w2.setCell ⟨op,1,none⟩ (.slice (some ⟨g,0,none⟩) n cap)).heap.size:=by simp
 have hb:w2.heap[op]? = some (.cells #[uv,sv] 80 (0,0)):=(hg.block op hop (fun x=>ap3 x.symm)).trans h.blk
 have ht:∀ b,op+1≤b→(w2.setCell ⟨op,1,none⟩ (.slice (some ⟨g,0,none⟩) n cap)).heap[b]? = w2.heap[b]? := fun b hb=>turns_set _ _ _ _ b (by omega)
 refine ⟨by rw [set_heap hb];rfl,?_,?_,?_,fun hl g' hg' => ?_,?_⟩
 · exact OwnI.turn (World.ownsRow.kept h.own hg ap1) ht
 · exact OwnS.turn (l:=xs++e) (by unfold OwnS;rw [←hn];exact ho) ht
 · refine ir_turn h.lef fun hl g' hg' => ?_
   obtain ⟨q1,q2,q3,q4⟩:=h.lap hl g' hg'
   rw [turns_set _ _ _ _ g' q1]
   exact hg.block g' q4 (fun x=>q3 x.symm)
 · obtain ⟨q1,q2,q3,q4⟩:=h.lap hl g' hg'
   refine ⟨q1,q2,fun x => ?_,by have:=hg.size;omega⟩
   have e1:g=g':=by simpa [Value.ownBlock] using x
   rcases hG with hG | hG
   · rw [e1] at hG;exact q3 hG
   · omega
 · exact ((h.bel.grown hg (by have:=h.bel.size;have:=hg.size;omega) (fun k hk=>by
    rcases row_blk h.ows with h1 | ⟨g',_,h1,h2,_⟩
    · rw [h1] at hk;cases hk
    · rw [h1] at hk;injection hk with hk;omega)).setCell (Nat.le_refl _) _)
theorem GS.left {w1:World} {op:Nat} {wr:World} {uv sv lv lv':Value} {d:List Int} {xs:List Stp} {l l':List Int} (h:GS w1 op wr uv sv lv d xs l) (hi:IR wr lv' l') (ha:l'≠[]→∀ g,lv'.ownBlock=some g→g≠op∧uv.ownBlock≠some g∧sv.ownBlock≠some g∧g<wr.heap.size):GS w1 op wr uv sv lv' d xs l':=
 ⟨h.blk,h.own,h.ows,hi,ha,h.bel⟩
theorem sinfo49:(Tryz.prog.info? 47).map (fun i=>(i.zero,i.size,i.bytes))=some (some (.agg #[.int .i64 0,.int .i64 0,.int .i64 0,.int .i64 0,.int .i64 0,.int .i64 0]),6,48):=by kernel_rfl
theorem push_St {ops:Array Oper} {rest:List Oper} {o:Oper} {a:Act} {Q:Exit→Act→World→Prop} {w w1:World} {op:Nat} {uv sv lv:Value} {d:List Int} {xs:List Stp} {l:List Int} (hgd:o.guard=none) (s x:Operand)
 (ho:o.op = .call { callee := .builtin .append,args:=#[s,x],argTypes:=#[43,43] }) (hs:a.eval s=sv) (h:GS w1 op w uv sv lv d xs l) (gb c:Nat) (y:Stp) (hx:a.eval x = .slice (some ⟨gb,0,none⟩) 1 c)
 (hc:w.heap[gb]? = some (.cells (fs1 y).toArray 47 (0,0))) (hl:xs.length+1≤1000000000)
 (hK:∀ g cap w2,w2.ownsRow (op+1) 47 6 (.slice (some ⟨g,0,none⟩) (xs.length+1) cap) (xs.length+1) (fs (xs++[y]))→w.grownBy w2 sv.ownBlock→(sv.ownBlock=some g∨g=w.heap.size)→wpList Tryz.prog ops Q rest (a.put o.dst (.slice (some ⟨g,0,none⟩) (xs.length+1) cap)) w2):wpList Tryz.prog ops Q (o::rest) a w:=by
 obtain ⟨i0,hi,hz0,hz1,hz2⟩:=info_parts sinfo49
 have hown:=h.ows
 unfold OwnS at hown
 refine wpList_plain hgd fun _ hK2=>wp_append_lies w s x 43 ho (op+1) 47 i0 _ 6 48 Tryz.underlying43 hi hz0 hz1 hz2 rfl (by decide) sv xs.length (fs xs) hs hown ⟨gb,0,none⟩ 1 c (fs [y]) hx rfl ?_ (fs_one _) (by omega) (by unfold maxLen;omega) (by omega) (by have:=blk_lt h.blk;omega) _ rfl fun g cap w' h2 h3 h4 _=>hK2 _ _ (hK g cap w' (by rw [fs_append];exact h2) h3 h4)
 intro j u hj
 rw [add_at,Nat.zero_add,cell_of hc]
 simpa [fs] using hj
structure UP (w1:World) (op:Nat) (w:World) (uv sv lv:Value) (d':List Int) (xs:List Stp) (l:List Int) (uv':Value) (w2:World):Prop where
 gs:GS w1 op (w2.setCell ⟨op,0,none⟩ uv') uv' sv lv d' xs l
 sl:IsSl uv'
 c:w2.cell? ⟨op,0,none⟩=some uv
 f:w2.frozen? ⟨op,0,none⟩=false
 k:∀ b,b<w.heap.size→b≠op→uv.ownBlock≠some b→(w2.setCell ⟨op,0,none⟩ uv').heap[b]? = w.heap[b]?
theorem GS.up {w1:World} {op:Nat} {wr w2:World} {uv sv lv:Value} {d e:List Int} {xs:List Stp} {l:List Int} (h:GS w1 op wr uv sv lv d xs l) {g n cap:Nat} (ho:w2.ownsRow (op+1) 3 1 (.slice (some ⟨g,0,none⟩) n cap) n (ints (d++e))) (hn:n=(d++e).length) (hg:wr.grownBy w2 uv.ownBlock) (hG:uv.ownBlock=some g∨g=wr.heap.size):UP w1 op wr uv sv lv (d++e) xs l (.slice (some ⟨g,0,none⟩) n cap) w2:=by
 have hb:w2.heap[op]? = some (.cells #[uv,sv] 80 (0,0)):=(hg.block op (blk_lt h.blk) (fun x=>h.apart.2.1 x.symm)).trans h.blk
 exact ⟨h.unit ho hn hg hG,⟨_,_,_,rfl⟩,by rw [cell_of hb];simp,free_of hb,fun b h1 h2 h3=>(turns_set _ _ _ _ b h2).trans (hg.block b h1 (fun x=>h3 x.symm))⟩
theorem GS.same {w1:World} {op:Nat} {wr:World} {uv sv lv:Value} {d:List Int} {xs:List Stp} {l:List Int} (h:GS w1 op wr uv sv lv d xs l):UP w1 op wr uv sv lv d xs l uv wr:=by
 have ht:∀ b,op+1≤b→(wr.setCell ⟨op,0,none⟩ uv).heap[b]? = wr.heap[b]? := fun b hb=>turns_set _ _ _ _ b (by omega)
 refine ⟨⟨by rw [set_heap h.blk];rfl,h.own.turn ht,h.ows.turn ht,ir_turn h.lef fun hl g hg=>turns_set _ _ _ _ g (h.lap hl g hg).1,fun hl g hg => ?_,h.bel.setCell (Nat.le_refl _) _⟩,?_,by rw [cell_of h.blk];simp,free_of h.blk,fun b _ h2 _=>turns_set _ _ _ _ b h2⟩
 · obtain ⟨a,b,c,e⟩:=h.lap hl g hg
   exact ⟨a,b,c,by simpa using e⟩
 · obtain ⟨a,c,e⟩:=h.own.sl
   exact ⟨a,_,c,e⟩
theorem step_unit {ops:Array Oper} {o:Oper} {a:Act} {K:Act→World→Prop} {Q:Exit→Act→World→Prop} {E:Prop} {w w1:World} {op:Nat} {uv sv lv:Value} {d:List Int} {xs:List Stp} {l:List Int} (hgd:o.guard=none) (s x:Operand)
 (ho:o.op = .call { callee := .builtin .append,args:=#[s,x],argTypes:=#[38,38] }) (hs:a.eval s=uv) (h:GS w1 op w uv sv lv d xs l) (gb c:Nat) (p:Int) (hx:a.eval x = .slice (some ⟨gb,0,none⟩) 1 c)
 (hp:w.cell? ⟨gb,0,none⟩=some (.int .i64 p)) (hl:d.length+1≤1000000000)
 (hK:∀ uv' w2,UP w1 op w uv sv lv (d++[p]) xs l uv' w2→K (a.put o.dst uv') w2):if Region.wanted o (yielded ops a.tmps)=true then Oper.wp Tryz.prog o a w K Q else E:=by
 obtain ⟨i0,hi,hz0,hz1,hz2⟩:=info_parts iinfo3
 refine step_append_lies w hgd s x 38 ho (op+1) 3 i0 (.int .i64 0) 1 8 Tryz.underlying38 hi hz0 hz1 hz2 rfl (by decide) uv d.length (ints d) hs h.own ⟨gb,0,none⟩ 1 c (ints [p]) hx rfl ?_ (ints_one _) (by omega) (by unfold maxLen;omega) (by omega) (by have:=blk_lt h.blk;omega) _ rfl fun g cap w' h2 h3 h4 _=>hK _ w' (h.up (by rw [ints_append];exact h2) (by simp) h3 h4)
 intro j u hj
 match j,hj with
 | 0,hj=>simp [ints] at hj;subst hj;exact hp
theorem push_units {ops:Array Oper} {rest:List Oper} {o:Oper} {a:Act} {Q:Exit→Act→World→Prop} {w w1:World} {op:Nat} {uv sv lv:Value} {d:List Int} {xs:List Stp} {l:List Int} (hgd:o.guard=none) (s x:Operand)
 (ho:o.op = .call { callee := .builtin .append,args:=#[s,x],argTypes:=#[38,38] }) (hs:a.eval s=uv) (h:GS w1 op w uv sv lv d xs l) (e:List Int) (xv:Value) (hx:a.eval x=xv) (hi:IR w xv e) (hl:d.length+e.length≤1000000000)
 (hK:∀ uv' w2,UP w1 op w uv sv lv (d++e) xs l uv' w2→wpList Tryz.prog ops Q rest (a.put o.dst uv') w2):wpList Tryz.prog ops Q (o::rest) a w:=by
 obtain ⟨i0,hi0,hz0,hz1,hz2⟩:=info_parts iinfo3
 by_cases he:e=[]
 · subst he
   rw [List.append_nil] at hK
   obtain ⟨A,c,rfl⟩:=ir_nil hi
   obtain ⟨ua,uc,huv⟩:=h.own.sl
   have hle:d.length≤uc:=by obtain ⟨_,c',e',h1,_⟩:=h.own.ir;rw [huv] at e';injection e' with _ _ e3;omega
   refine wpList_plain hgd fun _ hK2 => ?_
   have hr:=run_append_nothing (P:=Tryz.prog) w 38 38 o.type 3 i0 Tryz.underlying38 hi0 ua d.length uc hle (.slice A 0 c) ?_
   · unfold Oper.wp execOp
     simp only [ho,resolve,invoke,builtin,Sem.run_bind,Sem.run_pure,Result.andThen_ok,List.map_toArray,List.map_cons,List.map_nil,hs,hx,huv,hr]
     exact hK2 _ _ (by rw [←huv];exact hK uv w h.same)
   · exact ⟨.inl ⟨3,Tryz.underlying38⟩,fun w'=>by cases A <;> simp [Builtin.lenOf,go_sem],by cases A <;> simp [Builtin.firstCells,go_sem],by cases A <;> simp [Builtin.firstCells,go_sem],by simp,by simp⟩
 · obtain ⟨g,o',n,c,rfl,h1,h2,hd⟩:=ir_some hi he
   refine wpList_append_lies w hgd s x 38 ho (op+1) 3 i0 (.int .i64 0) 1 8 Tryz.underlying38 hi0 hz0 hz1 hz2 rfl (by decide) uv d.length (ints d) hs h.own ⟨g,o',none⟩ n c (ints e) hx (by rw [ints_length];omega) ?_ (ints_one _) (by have:=List.length_pos_iff.2 he;omega) (by unfold maxLen;omega) (by omega) (by have:=blk_lt h.blk;omega) _ rfl fun g cap w' h2 h3 h4 _=>hK _ w' (h.up (by rw [ints_append];exact h2) (by rw [List.length_append];omega) h3 h4)
   intro j u hj
   simp only [ints,List.getElem?_map,Option.map_eq_some_iff] at hj
   obtain ⟨y,hy,rfl⟩:=hj
   obtain ⟨hj1,hj2⟩:=List.getElem?_eq_some_iff.1 hy
   rw [add_at,hd j hj1,hj2]
structure SP (w1:World) (op:Nat) (w:World) (uv sv lv:Value) (d:List Int) (xs':List Stp) (l:List Int) (sv':Value) (w2:World):Prop where
 gs:GS w1 op (w2.setCell ⟨op,1,none⟩ sv') uv sv' lv d xs' l
 sl:IsSl sv'
 c:w2.cell? ⟨op,1,none⟩=some sv
 f:w2.frozen? ⟨op,1,none⟩=false
theorem push_step {ops:Array Oper} {rest:List Oper} {o:Oper} {a:Act} {Q:Exit→Act→World→Prop} {w w1:World} {op:Nat} {uv sv lv:Value} {d:List Int} {xs:List Stp} {l:List Int} (hgd:o.guard=none) (s x:Operand)
 (ho:o.op = .call { callee := .builtin .append,args:=#[s,x],argTypes:=#[43,43] }) (hs:a.eval s=sv) (h:GS w1 op w uv sv lv d xs l) (gb c:Nat) (y:Stp) (hx:a.eval x = .slice (some ⟨gb,0,none⟩) 1 c)
 (hc:w.heap[gb]? = some (.cells (fs1 y).toArray 47 (0,0))) (hl:xs.length+1≤1000000000)
 (hK:∀ sv' w2,SP w1 op w uv sv lv d (xs++[y]) l sv' w2→wpList Tryz.prog ops Q rest (a.put o.dst sv') w2):wpList Tryz.prog ops Q (o::rest) a w:=
 push_St hgd s x ho hs h gb c y hx hc hl fun g cap w2 h1 h2 h3=>hK _ w2 (by
  have hb:w2.heap[op]? = some (.cells #[uv,sv] 80 (0,0)):=(h2.block op (blk_lt h.blk) (fun x=>h.apart.2.2.1 x.symm)).trans h.blk
  exact ⟨h.step h1 (by simp) h2 h3,⟨_,_,_,rfl⟩,by rw [cell_of hb];simp,free_of hb⟩)
theorem nxtW_K {rs:List Rl} {d dn lf:List Int} (hs:Sg (klI rs) d 0 rs.length) (hl:d.length=rs.length) (hall:(allE rs).2=0) (hck:∀ r∈rs,chk r=0) (hlf:lf≠[]):nxtW rs d dn lf=nxtK rs dn lf rs.length:=by
 cases lf with
 | nil=>exact absurd rfl hlf
 | cons u lr=>
  rw [nxtW_eq,nxt_best hs hl hall hck,nxtK_fd dn (u::lr) (fun r hr=>(chk_ok (hck r hr)).k0) _ (Nat.le_refl _)]
  unfold fdF
  rw [if_pos hall]
theorem AllU.inI {l:List Int} (h:AllU l):∀ x∈l,InI x:=fun x hx=>by
 have:=h x hx
 unfold wd at this
 unfold InI
 split at this <;> (try split at this) <;> (try split at this) <;> (try split at this) <;> (try split at this) <;> omega
structure PW (W0:World) (v:Value) (rs:List Rl) (st:St):Prop where
 tab:Tab W0
 z:0<W0.heap.size
 psr:PsR W0 v rs
 fin:Fin rs st
 all:(allE rs).2=0
 ck:∀ r∈rs,chk r=0
structure Wk (Z:Nat→Prop) (T:Nat) (W0 w:World) (B wb mb:Nat) (v lv:Value) (rs:List Rl) (d:List Int) (l0:List Int) (xs:List Stp) (dn lf:List Int) (N:Nat) (dv uv:Value) (n room:Nat) (uu:List Int) (f:Int→Option Value):Prop where
 blk:WKB w wb v lv (.map (some mb)) dv uv room
 map:IMap w mb N f
 fi:FI w B rs d f
 don:OwnI w B dv dn
 uni:OwnI w B uv uu
 ul:uu.length=n
 rm:room≤n
 lfe:uu.drop room=lf
 n3:n≤3000000
 ord:OwnI w B lv d
 oln:d.length=rs.length
 srt:Sg (klI rs) d 0 rs.length
 du:∀ b,dv.ownBlock=some b→uv.ownBlock≠some b
 lx:∀ b,lv.ownBlock=some b→dv.ownBlock≠some b∧uv.ownBlock≠some b
 fx:∀ u bv,f u=some bv→∀ b,bv.ownBlock=some b→dv.ownBlock≠some b∧uv.ownBlock≠some b
 bel:Below W0.heap.size W0 w
 b0:W0.heap.size≤B
 b1:B≤mb
 b2:B≤wb
 b3:B≤w.heap.size
 at3:G3 rs l0 xs dn lf
 nN:N=xs.length
 zt:∀ k,T≤k→Z k
 tw:T≤w.heap.size
 zb:∀ k,Z k→B≤k
 zw:Z wb
 zm:Z mb
 zd:∀ b,dv.ownBlock=some b→Z b
 zu:∀ b,uv.ownBlock=some b→Z b
 zl:∀ b,lv.ownBlock=some b→Z b
 zf:∀ u bv,f u=some bv→∀ b,bv.ownBlock=some b→Z b
theorem Wk.mapne {w:World} {mb N:Nat} {f:Int→Option Value} {B:Nat} {v:Value} {l:List Int} (hm:IMap w mb N f) (ho:OwnI w B v l) {b:Nat} (hb:v.ownBlock=some b):b≠mb:=fun e=>by
 obtain ⟨cur,hc⟩:=own_at ho hb
 obtain ⟨es,cc,he⟩:=hm.isMap
 rw [e,he] at hc
 cases hc
theorem FM.fx {w:World} {f f':Int→Option Value} (hM:FM w.heap.size f f') {X:Nat→Prop} (hX:∀ b,X b→b<w.heap.size) (h:∀ u bv,f u=some bv→∀ b,bv.ownBlock=some b→¬ X b):∀ u bv,f' u=some bv→∀ b,bv.ownBlock=some b→¬ X b:=fun u bv hu b hb hx=>by
 rcases hM u bv hu with h1 | h1
 · exact h u bv h1 b hb hx
 · have:=h1 b hb
   have:=hX b hx
   omega
theorem Wk.step {Z:Nat→Prop} {T:Nat} {W0 w w':World} {B wb mb:Nat} {v lv:Value} {rs:List Rl} {st:St} {d l0:List Int} {xs:List Stp} {dn lf:List Int} {N:Nat} {dv uv:Value} {n room:Nat} {uu:List Int} {f:Int→Option Value} (hP:PW W0 v rs st) (hl0:l0.length≤16384) (h:Wk Z T W0 w B wb mb v lv rs d l0 xs dn lf N dv uv n room uu f) (hlf:lf≠[]) {x:Array Value} {La bl:List Int} {took:Nat} {e:Ending} (hQ:SkQ w B wb mb N rs d dn uu v lv dv uv n room f x La bl took e w')
 (hLa:La=layd rs dn lf) (hbl:bl++lf.drop took=lefd rs dn lf) (_hb16:bl.length≤16) (htk:room+took≤n) (hx:x=(fs1 (stp rs dn lf)).toArray) :
 e = .returned (.agg (fs1 (stp rs dn lf)).toArray)∧(∃ dv' uv' n' room' uu' f',Wk Z T W0 w' B wb mb v lv rs d l0 (xs++[stp rs dn lf]) (dn++layd rs dn lf) (lefd rs dn lf) (N+1) dv' uv' n' room' uu' f')∧Fr w w' Z:=by
 obtain ⟨w3,f',W6,dv',w7,he,hNx,hFM,hRB,hO6,hbk,hF6,hS,hF7⟩:=hQ
 subst hx
 have hFw:Fr w w' Z:=by
  refine (((hNx.fr.mono fun k _ e => ?_).trans hF6 fun k _ e => ?_).trans hS.fr fun k _ e => ?_).trans hF7 fun k _ e => ?_
  · rw [e];exact h.zm
  · rcases e with e | e
    · rw [e];exact h.zw
    · exact h.zd k e
  · rcases e with e | e
    · rw [e];exact h.zw
    · exact h.zu k e
  · exact h.zt k (by have:=h.tw;omega)
 refine ⟨he,?_,?_⟩
 · obtain ⟨A,c,m,room',uu',hW7,hU7,hul,hrm,hdr,hm,hA⟩:=hS.ex
   have hs3:w.heap.size≤w3.heap.size:=hNx.fr.size
   have hs6:w3.heap.size≤W6.heap.size:=hF6.size
   have hs7:W6.heap.size≤w7.heap.size:=hS.fr.size
   have hdlt:∀ b,dv.ownBlock=some b→b<w.heap.size:=fun b hb=>(World.ownsRow.lt h.don b hb).2
   have hult:∀ b,uv.ownBlock=some b→b<w.heap.size:=fun b hb=>(World.ownsRow.lt h.uni b hb).2
   have hllt:∀ b,lv.ownBlock=some b→b<w.heap.size:=fun b hb=>(World.ownsRow.lt h.ord b hb).2
   have hwlt:wb<w.heap.size:=blk_lt h.blk
   have hmlt:mb<w.heap.size:=by obtain ⟨es,cc,he⟩:=h.map.isMap;exact blk_lt he
   -- how the whole moves: what is touched
   have hwm:wb≠mb:=fun e=>by
    obtain ⟨es,cc,he⟩:=h.map.isMap
    have h':=h.blk
    unfold WKB at h'
    rw [e,he] at h'
    cases h'
   have hbk':∀ b,dv'.ownBlock=some b→dv.ownBlock=some b∨w3.heap.size≤b:=fun b hb=>by
    rcases hbk with e1 | ⟨g,e1,e2⟩
    · exact .inl (by rw [←e1];exact hb)
    · rw [e1] at hb;injection hb with hb;exact .inr (by omega)
   have hA':∀ b,(Value.slice A m c).ownBlock=some b→uv.ownBlock=some b∨W6.heap.size≤b:=fun b hb=>by
    have e0:(Value.slice A m c).ownBlock=A.map (·.block):=by cases A <;> rfl
    rw [e0] at hb
    rcases hA with e1 | ⟨g,e1,e2⟩
    · exact .inl (by rw [←e1];exact hb)
    · rw [e1] at hb
      injection hb with hb
      exact .inr (by have hb:g=b:=hb;omega)
   have hd6lt:∀ b,dv'.ownBlock=some b→b<W6.heap.size:=fun b hb=>(World.ownsRow.lt hO6 b hb).2
   -- a frame from w3 to the end
   have hF37:Fr w3 w' fun k=>k=wb∨dv.ownBlock=some k∨uv.ownBlock=some k∨k=w.heap.size:=by
    refine ((hF6.mono fun k _ e => ?_).trans hS.fr fun k _ e => ?_).trans hF7 fun k _ e => .inr (.inr (.inr e))
    · rcases e with e | e
      · exact .inl e
      · exact .inr (.inl e)
    · rcases e with e | e
      · exact .inl e
      · exact .inr (.inr (.inl e))
   have hne0:∀ {b:Nat},b<w.heap.size→b≠w.heap.size:=fun hb e=>by omega
   have hfi3:FI w3 B rs d f':=hNx.fi
   have hm3:=hNx.map
   have hfx3:∀ u bv,f' u=some bv→∀ b,bv.ownBlock=some b→¬ (dv.ownBlock=some b∨uv.ownBlock=some b):=FM.fx hFM (fun b hb=>hb.elim (hdlt b) (hult b)) fun u bv hu b hb hx=>by
    have:=h.fx u bv hu b hb
    exact hx.elim this.1 this.2
   -- the list of a unit lies in no box of the walk,and not in the result's
   have hlst:∀ u bv,f' u=some bv→∀ b,bv.ownBlock=some b→¬ (b=wb∨dv.ownBlock=some b∨uv.ownBlock=some b∨b=w.heap.size):=fun u bv hu b hb hx=>by
    have hcell:=own_at (hfi3 u bv hu) hb
    obtain ⟨cur,hcell⟩:=hcell
    rcases hx with e | e | e | e
    · subst e
      have h3:=(hNx.fr.block b hwlt hwm).trans h.blk
      unfold WKB at h3
      rw [hcell] at h3
      injection h3 with h3
      injection h3 with _ h3 _
      cases h3
    · exact hfx3 u bv hu b hb (.inl e)
    · exact hfx3 u bv hu b hb (.inr e)
    · subst e
      obtain ⟨cs,hcs⟩:=hRB
      rw [hcell] at hcs
      injection hcs with hcs
      injection hcs with _ hcs _
      cases hcs
   have hfi':FI w' B rs d f':=fun u bv hu=>own_fr (hfi3 u bv hu) hF37 fun b hb=>hlst u bv hu b hb
   have hm':IMap w' mb (N+1) f':=hm3.kept fun o ho=>(hF37.block mb (blk_lt ho) fun e=>by
    rcases e with e | e | e | e
    · exact hwm e.symm
    · exact Wk.mapne h.map h.don e rfl
    · exact Wk.mapne h.map h.uni e rfl
    · omega).trans ho
   have hrne:w.heap.size<W6.heap.size:=by
    obtain ⟨cs,hcs⟩:=hRB
    have:=blk_lt hcs
    omega
   have hr3:w.heap.size<w3.heap.size:=by
    obtain ⟨cs,hcs⟩:=hRB
    exact blk_lt hcs
   have hdon:OwnI w' B dv' (dn++La):=own_fr (own_fr hO6 hS.fr fun b hb e=>by
    rcases e with e | e
    · rcases hbk' b hb with h1 | h1
      · exact h.blk.ne h.don h1 e
      · omega
    · rcases hbk' b hb with h1 | h1
      · exact h.du b h1 e
      · have:=hult b e;omega) hF7 fun b hb e=>by
    rcases hbk' b hb with h1 | h1
    · have:=hdlt b h1;omega
    · omega
   have hbw7:B≤w7.heap.size:=by have:=h.b3;omega
   have huni:OwnI w' B (.slice A m c) uu':=own_fr hU7 hF7 fun b hb e=>by
    rcases hA' b hb with h1 | h1
    · have:=hult b h1;omega
    · omega
   have hblk:WKB w' wb v lv (.map (some mb)) dv' (.slice A m c) room':=hW7.fr hF7 (by omega)
   have hord:OwnI w' B lv d:=own_fr (own_fr h.ord hNx.fr fun b hb e=>Wk.mapne h.map h.ord hb e) hF37 fun b hb e=>by
    rcases e with e | e | e | e
    · exact h.blk.ne h.ord hb e
    · exact (h.lx b hb).1 e
    · exact (h.lx b hb).2 e
    · have:=hllt b hb;omega
   have hdrop:uu'.drop room'=lefd rs dn lf:=by
    rw [hdr,←hbl,←h.lfe,List.drop_drop]
   have hG:=h.at3.snoc hlf
   have hn':m≤3000000:=by
    rcases hm with h1 | ⟨h1,h2⟩
    · rw [h1];exact h.n3
    · have hln:=(hG.lens hP.fin hP.ck)
      have e1:(lefd rs dn lf).length=bl.length+(n - (room+took)):=by
       rw [←hbl,List.length_append,←h.lfe,List.drop_drop,List.length_drop,h.ul]
      omega
   refine ⟨dv',.slice A m c,m,room',uu',f',hblk,hm',hfi',by rw [←hLa];exact hdon,huni,hul,hrm,hdrop,hn',hord,h.oln,h.srt,fun b hb e => ?_,fun b hb=>⟨fun e => ?_,fun e => ?_⟩,fun u bv hu b hb=>⟨fun e => ?_,fun e => ?_⟩,?_,h.b0,h.b1,h.b2,?_,hG,by simp [h.nN],h.zt,Nat.le_trans h.tw hFw.size,h.zb,h.zw,h.zm,fun b hb => ?_,fun b hb => ?_,h.zl,fun u bv hu b hb => ?_⟩
   · rcases hA' b e with h1 | h1
     · rcases hbk' b hb with h2 | h2
       · exact h.du b h2 h1
       · have:=hult b h1;omega
     · have:=hd6lt b hb;omega
   · have:=hllt b hb
     rcases hbk' b e with h2 | h2
     · exact (h.lx b hb).1 h2
     · omega
   · have:=hllt b hb
     rcases hA' b e with h2 | h2
     · exact (h.lx b hb).2 h2
     · omega
   · have hlt3:=(World.ownsRow.lt (hfi3 u bv hu) b hb).2
     rcases hbk' b e with h2 | h2
     · exact hfx3 u bv hu b hb (.inl h2)
     · omega
   · have hlt3:=(World.ownsRow.lt (hfi3 u bv hu) b hb).2
     rcases hA' b e with h2 | h2
     · exact hfx3 u bv hu b hb (.inr h2)
     · omega
   · exact h.bel.trans ((hFw.below (fun k hk=>h.zb k hk) h.b3).mono h.b0)
   · have:=hFw.size
     have:=h.b3
     omega
   · rcases hbk' b hb with h1 | h1
     · exact h.zd b h1
     · exact h.zt b (by have:=h.tw;omega)
   · rcases hA' b hb with h1 | h1
     · exact h.zu b h1
     · exact h.zt b (by have:=h.tw;omega)
   · rcases hFM u bv hu with h1 | h1
     · exact h.zf u bv h1 b hb
     · exact h.zt b (by have:=h.tw;have:=h1 b hb;omega)
 · exact hFw
theorem Wk.keep {Z:Nat→Prop} {T:Nat} {W0 X Y:World} {B wb mb:Nat} {v lv:Value} {rs:List Rl} {d l0:List Int} {xs:List Stp} {dn lf:List Int} {N:Nat} {dv uv:Value} {n room:Nat} {uu:List Int} {f:Int→Option Value} (h:Wk Z T W0 X B wb mb v lv rs d l0 xs dn lf N dv uv n room uu f) {b2:Nat} (hk:KAll Z b2 X Y) (hb:W0.heap.size≤b2):Wk Z T W0 Y B wb mb v lv rs d l0 xs dn lf N dv uv n room uu f:=by
 have own:∀ {v:Value} {l:List Int},OwnI X B v l→(∀ b,v.ownBlock=some b→Z b)→OwnI Y B v l:=fun {v l} ho hz=>by
  refine ⟨ho.1,ho.2.imp id fun ⟨g,cap,cur,e,h1,h2,h3⟩=>⟨g,cap,cur,e,h1,hk.same g _ (hz g (by rw [e];rfl)) h2,h3⟩⟩
 exact ⟨hk.same _ _ h.zw h.blk,h.map.kept fun o ho=>hk.same _ _ h.zm ho,fun u bv hu=>own (h.fi u bv hu) (h.zf u bv hu),own h.don h.zd,own h.uni h.zu,h.ul,h.rm,h.lfe,h.n3,own h.ord h.zl,h.oln,h.srt,h.du,h.lx,h.fx,h.bel.trans (hk.bel.mono hb),h.b0,h.b1,h.b2,Nat.le_trans h.b3 hk.bel.size,h.at3,h.nN,h.zt,Nat.le_trans h.tw hk.bel.size,h.zb,h.zw,h.zm,h.zd,h.zu,h.zl,h.zf⟩
def StepQ (Z:Nat→Prop) (T:Nat) (W0 w:World) (B wb mb:Nat) (v lv:Value) (rs:List Rl) (d l0:List Int) (xs:List Stp) (dn lf:List Int) (e:Ending) (w':World):Prop:=
 e = .returned (.agg (fs1 (stp rs dn lf)).toArray)∧(∃ dv' uv' n' room' uu' f',Wk Z T W0 w' B wb mb v lv rs d l0 (xs++[stp rs dn lf]) (dn++layd rs dn lf) (lefd rs dn lf) (xs.length+1) dv' uv' n' room' uu' f')∧Fr w w' Z
theorem step_any {Z:Nat→Prop} {T:Nat} {W0 w:World} {B wb mb:Nat} {v lv:Value} {rs:List Rl} {st:St} {d l0:List Int} {xs:List Stp} {dn lf:List Int} {N:Nat} {dv uv:Value} {n room:Nat} {uu:List Int} {f:Int→Option Value} (hP:PW W0 v rs st) (hl0:l0.length≤16384) (hu0:AllU l0) (h:Wk Z T W0 w B wb mb v lv rs d l0 xs dn lf N dv uv n room uu f) (hlf:lf≠[]) :
 Calls Tryz.prog 49 #[.pointer (some ⟨wb,0,none⟩)] w (StepQ Z T W0 w B wb mb v lv rs d l0 xs dn lf):=by
 have hlen:=h.at3.lens hP.fin hP.ck
 have hun:=(h.at3.k hP.ck).un hu0
 have hl0':=List.length_pos_iff.2 hlf
 have hll:lf.length=n - room:=by rw [←h.lfe,List.length_drop,h.ul]
 have hrn:room<n:=by omega
 obtain ⟨g,c,huv⟩:∃ g c,uv = .slice (some ⟨g,0,none⟩) n c:=by
  rcases h.uni.2 with ⟨_,e⟩ | ⟨g,cap,cur,e,_⟩
  · rw [h.ul] at e;omega
  · rw [h.ul] at e;exact ⟨g,cap,e⟩
 have hN:=h.nN
 have hall:=hP.all
 have hrl:rs.length≤1000000:=by have:=hP.fin.n;omega
 have hnx:=nxtW_K (dn:=dn) h.srt h.oln hall hP.ck hlf
 have hnlf:=nextS_ok hP.ck dn hl0'
 have hdr:∀ x∈d,0≤x∧x<(rs.length:Int):=fun x hx=>by
  obtain ⟨i,hi,rfl⟩:=List.getElem_of_mem hx
  have h1:=h.srt.r i (Nat.zero_le _) (by rw [←h.oln];exact hi)
  rw [bAt_in hi] at h1
  exact ⟨by have:=h1.1;omega,h1.2⟩
 have hk0:∀ r∈rs,0<r.key.length∧r.key.length≤1000000:=fun r hr=>by have h1:=chk_ok (hP.ck r hr);exact ⟨h1.k0,by have:=h1.k8;omega⟩
 have hW:=h
 subst huv
 have hmlt:mb<w.heap.size:=by obtain ⟨es,cc,he⟩:=h.map.isMap;exact blk_lt he
 have hdu:∀ b,dv.ownBlock=some b→b≠g:=fun b hb e=>h.du b hb (by rw [e];rfl)
 have hui:∀ x∈uu.drop room,InI x:=by rw [h.lfe];exact hun.1.inI
 rcases hnlf with ⟨h1,hok⟩ | ⟨i,hi,h1,h2,h3,hok⟩
 · obtain ⟨e1,e2,e3⟩:=stp_none h1
   have hs:=step_none hP.tab hP.z h.blk h.map (by omega) hP.psr h.bel (Nat.le_trans h.b0 h.b1) hk0 h.ord.ir (by rw [h.oln];exact hrl) hdr h.fi h.b3 h.don (by omega) h.uni h.ul hrn (by have:=h.n3;omega) hui hmlt (by have:=h.n3;omega) hdu (by rw [h.lfe,hnx,h1])
   rw [h.lfe] at hs
   refine hs.mono fun e w' hQ => ?_
   have:=hW.step hP hl0 hlf hQ e2.symm (by rw [e3];rfl) (by simp) (by omega) (by rw [e1,hll];rfl)
   rw [hN] at this
   exact this
 · obtain ⟨e1,e2,e3⟩:=stp_rule hi h1
   have hO:=chk_ok (hP.ck _ (List.getElem_mem hi))
   have ho:(outs rs[i] (lf.take rs[i].key.length)).length=rs[i].res.length:=by simp [outs]
   have q1:=hO.r16
   have q2:=hO.c0
   have q3:=hO.c1
   have hs:=step_rule hP.tab hP.z h.blk h.map (by omega) hP.psr h.bel (Nat.le_trans h.b0 h.b1) hk0 h.ord.ir (by rw [h.oln];exact hrl) hdr h.fi h.b3 h.don (by omega) h.uni h.ul hrn (by have:=h.n3;omega) hui hmlt (by have:=h.n3;omega) hdu hi (by rw [h.lfe,hnx,h1]) (by omega) (by rw [h.lfe];exact h3) hO rfl rfl rfl
   rw [h.lfe] at hs
   refine hs.mono fun e w' hQ => ?_
   have:=hW.step hP hl0 hlf hQ e2.symm e3.symm (by rw [List.length_drop,ho];omega) (by omega) (by
    have e4:(((outs rs[i] (lf.take rs[i].key.length)).take rs[i].cu.toNat).length:Int)=rs[i].cu:=by rw [List.length_take,ho];omega
    have e5:((outs rs[i] (lf.take rs[i].key.length)).drop rs[i].cu.toNat).length=(backP rs[i]).length:=by rw [List.length_drop,ho];simp [backP]
    rw [e1,hll,e4,e5]
    rfl)
   rw [hN] at this
   exact this
abbrev encS (x:Stp):Array Value:=#[.agg (fs1 x).toArray]
def WkAt (Z:Nat→Prop) (T:Nat) (W0 w:World) (B wb mb:Nat) (v lv:Value) (rs:List Rl) (d l0:List Int) (xs:List Stp) (dn lf:List Int):Prop:=∃ dv uv n room uu f,Wk Z T W0 w B wb mb v lv rs d l0 xs dn lf xs.length dv uv n room uu f
theorem Wk.nowl {Z:Nat→Prop} {T:Nat} {W0 w:World} {B wb mb:Nat} {v lv:Value} {rs:List Rl} {d l0:List Int} {xs:List Stp} {dn lf:List Int} {N:Nat} {dv uv:Value} {n room:Nat} {uu:List Int} {f:Int→Option Value} (h:Wk Z T W0 w B wb mb v lv rs d l0 xs dn lf N dv uv n room uu f) :
 Calls Tryz.prog 48 #[.pointer (some ⟨wb,4,none⟩)] w fun e w'=>w'=w.drew∧∃ A c,e = .returned (.slice A lf.length c):=by
 obtain ⟨A,c,huv⟩:=h.uni.sl
 subst huv
 have hnc:uu.length≤c∧(A=none→c=0):=by
  rcases h.uni.2 with ⟨e,_⟩ | ⟨g,cap,cur,e,_,_,h1,_⟩
  · injection e with e1 e2 e3
    exact ⟨by omega,fun _=>e3⟩
  · injection e with e1 e2 e3
    exact ⟨by omega,fun e=>by rw [e] at e1;cases e1⟩
 have hll:lf.length=uu.length - room:=by rw [←h.lfe,List.length_drop]
 refine (now_any h.blk (by rw [h.ul];exact h.rm) hnc.1 hnc.2).mono ?_
 rintro e w' ⟨rfl,rfl⟩
 exact ⟨rfl,_,_,by rw [hll]⟩
theorem Wk.drew {Z:Nat→Prop} {T:Nat} {W0 w:World} {B wb mb:Nat} {v lv:Value} {rs:List Rl} {d l0:List Int} {xs:List Stp} {dn lf:List Int} {N:Nat} {dv uv:Value} {n room:Nat} {uu:List Int} {f:Int→Option Value} (h:Wk Z T W0 w B wb mb v lv rs d l0 xs dn lf N dv uv n room uu f):Wk Z T W0 w.drew B wb mb v lv rs d l0 xs dn lf N dv uv n room uu f:=
 h.keep (KAll.grown (Grown.refl w).drew (Nat.le_trans h.b0 h.b3)) (Nat.le_refl _)
theorem fr_drew (w:World) (X:Nat→Prop):Fr w w.drew X:=fr_grown (Grown.refl w).drew X
set_option maxHeartbeats 4000000 in
theorem steps_seq {Z:Nat→Prop} {T:Nat} {W0 V:World} {B wb mb:Nat} {v lv:Value} {rs:List Rl} {st:St} {d l0:List Int} {xf:List Stp} {df:List Int} (hP:PW W0 v rs st) (hl0:l0.length≤16384) (hu0:AllU l0) (hf:G3 rs l0 xf df []) (h:WkAt Z T W0 V B wb mb v lv rs d l0 [] [] l0) {b:Nat} (hb:W0.heap.size≤b) (n l:Nat) (hn:1≤n) :
 SeqZ n 27 #[.pointer (some ⟨wb,0,none⟩)] #[] encS xf b Z (fun Y=>WkAt Z T W0 Y B wb mb v lv rs d l0 xf df []) V l:=by
 intro J Jx hJ hJx hY h0
 refine callsIn_of_wp Tryz.func27 rfl trivial ?_ rfl
 simp only [Tryz.ntmps27,List.size_toArray,List.length_cons,List.length_nil,Nat.reduceAdd,Nat.reduceSub,Array.replicate_succ,Array.replicate_zero,List.push_toArray,List.append_toArray,List.nil_append,List.cons_append]
 have HP:=Hid.mk' hP
 have HS:Hid (∀ {xs:List Stp} {dn lf:List Int},G3 rs l0 xs dn lf→(xs.length:Int)+lf.length≤64*l0.length):=fun {xs dn lf} hg=>by
  have:=hg.lens hP.fin hP.ck
  omega
 gi_wp2_with fail
 gi_loopg [] (64*l0.length+1) (fun f wr=>Hid (∃ xs dn lf,WkAt Z T W0 wr B wb mb v lv rs d l0 xs dn lf∧J xs wr∧64*l0.length+1≤f+xs.length))
 case atStart=>exact ⟨[],[],l0,h,h0,by simp⟩
 case round=>
  obtain ⟨xs,dn,lf,hW,hJr,hm⟩:=hrel.out
  obtain ⟨dv,uv,n',room,uu,f,hk⟩:=hW
  have hlen:=HS.out hk.at3
  by_cases hlf:lf=[]
  · subst hlf
    have HN:Hid (Calls Tryz.prog 48 #[.pointer (some ⟨wb,4,none⟩)] wr fun e w'=>w'=wr.drew∧∃ A c,e = .returned (.slice A 0 c)):=hk.nowl
    have HK:=Hid.mk' (And.intro hk hJr)
    clear hk hrel hm hJr
    gi_wp2_with (refine ⟨trivial,?_⟩;gi_at_call 48;refine (callsIn_wide.2 HN.out).mono ?_;rintro e w' ⟨rfl,A,c,rfl⟩)
    go_end0
    obtain ⟨hk,hJr⟩:=HK.out
    obtain ⟨e1,e2⟩:=hk.at3.one hf
    subst e1 e2
    exact ⟨⟨_,rfl⟩,.inl ⟨hJ _ _ _ hJr (fr_drew _ _),_,_,_,_,_,_,hk.drew⟩⟩
  · have hl1:=List.length_pos_iff.2 hlf
    have hl1I:(0:Int)<(lf.length:Int):=by omega
    have HN:Hid (Calls Tryz.prog 48 #[.pointer (some ⟨wb,4,none⟩)] wr fun e w'=>w'=wr.drew∧∃ A c,e = .returned (.slice A lf.length c)):=hk.nowl
    have HSt:Hid (Calls Tryz.prog 49 #[.pointer (some ⟨wb,0,none⟩)] wr.drew (StepQ Z T W0 wr.drew B wb mb v lv rs d l0 xs dn lf)):=step_any HP.out hl0 hu0 hk.drew hlf
    obtain ⟨x,hx⟩:∃ x,stp rs dn lf=x:=⟨_,rfl⟩
    have HXF:Hid (xs++[x] <+: xf):=by
     have hp:=(hk.at3.snoc hlf).prefix hf
     rw [hx] at hp
     show _ <+: _
     rw [hp]
     exact List.take_prefix _ _
    have HJD:Hid (∀ w4,Fr wr.drew w4 Z→J xs w4):=fun w4 hf4=>hJ _ _ _ hJr ((fr_drew _ _).trans hf4 fun _ _ e=>e)
    have HLen:Hid (xs.length+1≤64*l0.length∧64*l0.length+1≤gk+xs.length):=⟨by omega,hm⟩
    have HHf:=Hid.mk' hf
    unfold StepQ at HSt
    rw [hx] at HSt
    obtain ⟨ln,hln⟩:∃ ln,lf.length=ln:=⟨_,rfl⟩
    rw [hln] at HN hl1I hl1
    clear hk hrel hm hJr hlen hln hf hP
    gi_wp2_with (first
     | (refine ⟨trivial,?_⟩;gi_at_call 48;refine (callsIn_wide.2 HN.out).mono ?_;rintro e w' ⟨rfl,A,c,rfl⟩)
     | (refine ⟨trivial,?_⟩;gi_at_call 49;refine (callsIn_wide.2 HSt.out).mono ?_;rintro e w4 ⟨rfl,hw4,hf4⟩;have HW4:=Hid.mk' (And.intro hw4 hf4);obtain ⟨fn,tmps,assign,body,hy,hR⟩:=hY xs x w4 (HJD.out w4 hf4) HXF.out;dsimp only [encS] at hy;have HR:=Hid.mk' hR;clear hR hw4 hf4))
    refine HR.out.mono ?_
    rintro e W3 (⟨rfl,hJ3,hk3⟩ | ⟨rfl,hJx3,hk3⟩)
    · gi_wp2
      gi_roundg (gk - 1)
      case measure=>have:=HLen.out;omega
      case rel=>
       obtain ⟨⟨dv',uv',n2,room',uu',f',hw⟩,hf4⟩:=HW4.out
       refine ⟨xs++[x],dn++layd rs dn lf,lefd rs dn lf,⟨dv',uv',n2,room',uu',f',?_⟩,hJ3,by have:=HLen.out;simp;omega⟩
       rw [List.length_append]
       exact hw.keep hk3 hb
    · gi_wp2
      refine bodyPost_ret (results_none rfl _ _ _) rfl ?_
      exact ⟨⟨_,rfl⟩,.inr ⟨xs++[x],⟨HXF.out,by simp⟩,hJx3⟩⟩
def mayE (rs:List Rl) (s:ByteArray):Int:=if (chkW rs).2≠0 then (chkW rs).2 else if 16384<s.size then 2 else 0
set_option maxHeartbeats 4000000 in
theorem may_any (v:Value) (rs:List Rl) (s:ByteArray) (w:World) (hT:Tab w) (h:PsR w v rs):Calls Tryz.prog 25 #[.agg #[v],.string s] w fun e w'=>e = .returned (.int .i64 (mayE rs s))∧Below w.heap.size w w':=by
 have HC:Hid (∀ W,Grown w W→Calls Tryz.prog 45 #[.agg #[v]] W fun e w'=>e = .returned (.tuple #[.int .i64 (chkW rs).1,.int .i64 (chkW rs).2])∧Below w.heap.size w w'):=fun W g=>(wcheck_any v rs W (hT.grown g) (h.grown g)).mono fun e w' h=>⟨h.1,g.below.trans (h.2.mono g.size)⟩
 obtain ⟨v1,v2,v3,hv⟩:IsSl v:=by obtain ⟨a,b,e,_⟩:=h;exact ⟨_,_,_,e⟩
 subst hv
 unfold mayE
 generalize chkW rs=c at HC ⊢
 obtain ⟨c1,c2⟩:=c
 have HC2:Hid (∀ W,Grown w W→Calls Tryz.prog 45 #[.agg #[.slice v1 v2 v3]] W fun e w'=>e = .returned (.tuple #[.int .i64 c1,.int .i64 c2])∧Below w.heap.size w w'):=HC.out
 clear HC h hT
 by_cases h1:c2=0
 · subst h1
   by_cases h2:16384<s.size
   · have h3:(16384:Int)<(s.size:Int):=by omega
     go_enter Tryz.func25,Tryz.ntmps25
     go_wp2_with (go_at_call 45;refine (HC2.out _ (by (repeat (first | exact Grown.refl _ | refine Grown.alloc ?_ _ | refine Grown.drew ?_)))).mono ?_;rintro e w2 ⟨rfl,hb⟩)
     go_ret
     exact ⟨by simp,hb⟩
   · have h3:¬ (16384:Int)<(s.size:Int):=by omega
     go_enter Tryz.func25,Tryz.ntmps25
     go_wp2_with (go_at_call 45;refine (HC2.out _ (by (repeat (first | exact Grown.refl _ | refine Grown.alloc ?_ _ | refine Grown.drew ?_)))).mono ?_;rintro e w2 ⟨rfl,hb⟩)
     go_ret
     exact ⟨by simp,hb⟩
 · have h4:(c2 == 0)=false:=by simpa using h1
   go_enter Tryz.func25,Tryz.ntmps25
   go_wp2_with (go_at_call 45;refine (HC2.out _ (by (repeat (first | exact Grown.refl _ | refine Grown.alloc ?_ _ | refine Grown.drew ?_)))).mono ?_;rintro e w2 ⟨rfl,hb⟩)
   go_ret
   exact ⟨by simp,hb⟩
theorem bkI_take (rs:List Rl) (m:Nat):∀ k,k≤m→bkI (rs.take m) k=bkI rs k
 | 0,_=>rfl
 | k+1,h=>by
  rw [bkI,bkI,bkI_take rs m k (by omega)]
  congr 2
  rw [List.getElem?_take,if_pos (by omega)]
theorem bkI_pre (rs:List Rl) (m:Nat):∀ k,∃ t,bkI rs (m+k)=bkI rs m++t
 | 0=>⟨[],by simp⟩
 | k+1=>by
  obtain ⟨t,ht⟩:=bkI_pre rs m k
  exact ⟨t++pbs (m+k) ((rs[m+k]?.map backP).getD []),by rw [show m+(k+1)=(m+k)+1 by omega,bkI,ht,List.append_assoc]⟩
theorem wsum_le:∀ (l k:List Pb) (n:Nat),l.length≤k.length→(∀ j (h:j<l.length) (h':j<k.length),l[j].r=k[j].r∧l[j].wt≤k[j].wt)→(∀ b∈k,0≤b.wt)→wsum l n≤wsum k n
 | [],[],n,_,_,_=>Int.le_refl _
 | [],b::k,n,_,h,hp=>by
  have:=wsum_le [] k n (by simp) (fun j h=>by simp at h) fun x hx=>hp x (List.mem_cons_of_mem _ hx)
  have h2:=hp b List.mem_cons_self
  simp only [wsum] at this ⊢
  split <;> omega
 | _::_,[],n,h,_,_=>by simp at h
 | a::l,b::k,n,hl,h,hp=>by
  have ih:=wsum_le l k n (by simpa using hl) (fun j h1 h2=>by have:=h (j+1) (by simpa using h1) (by simpa using h2);simpa using this) fun x hx=>hp x (List.mem_cons_of_mem _ hx)
  have h0:=h 0 (by simp) (by simp)
  simp at h0
  simp only [wsum,h0.1]
  split <;> omega
theorem fstS_take {rs:List Rl} {m i:Nat} (h:i<m):fstS (rs.take m) i=fstS rs i:=by
 unfold fstS
 rw [List.getElem?_take,if_pos h]
structure SolM (rs:List Rl) (us:List (List (Int × Int))) (rk:List Nat) (cs:List Int) (M:Nat) (X:Nat→Int) (Xt:Nat→Int):Prop where
 t:∀ i j,i<M→j<us.length→touchL (fstS rs i) ((us[j]?).getD [])=true→X i≤Xt j
 a:∀ (st:St),st.bk.map Pb.us=us→st.bk.map Pb.r=rk→(∀ j,j<us.length→wtAt st.bk j≤Xt j)→∀ i,i<M→at0 cs i+wsum st.bk i≤X i
 m:∀ i,i<M→X i≤64
structure BdM (us:List (List (Int × Int))) (M:Nat) (X Xt:Nat→Int) (st:St):Prop where
 w:∀ i,i<M→at0 st.ws i≤X i
 t:∀ j,j<us.length→wtAt st.bk j≤Xt j
theorem settle_leastM {rs:List Rl} {cs:List Int} {us:List (List (Int × Int))} {rk:List Nat} {M:Nat} {X Xt:Nat→Int} (hX:SolM rs us rk cs M X Xt) (hM:M≤cs.length) {last:Nat} (hl:last<M):∀ (F:Nat) (st:St),Run rs cs us rk st→BdM us M X Xt st→(settleP rs last F st).1=true∧BdM us M X Xt (settleP rs last F st).2
 | 0,st,_,hb=>⟨rfl,hb⟩
 | F+1,st,h,hb=>by
  unfold settleP
  cases hk:look st (last+1) 0 with
  | none=>exact ⟨rfl,hb⟩
  | some n=>
   simp only
   have hle:=look_le st _ _ _ hk
   have hs:=look_some hk
   have hnM:n<M:=by omega
   have hn:n<cs.length:=by omega
   have haq:at0 st.aq n≤X n:=by
    rw [h.ok.asum n hn]
    exact hX.a st h.ok.uss h.rk hb.t n hnM
   have hm:=hX.m n hnM
   have h64:¬ 64<at0 st.aq n:=by omega
   rw [if_neg h64]
   have h1:at0 st.ws n<at0 st.aq n:=hs.resolve_left h64
   refine settle_leastM hX hM hl F _ (h.lift hn h1 (by omega)) ⟨fun i hi => ?_,fun j hj => ?_⟩
   · rw [liftP_ws,at0_set (by rw [h.ok.wl];exact hn)]
     split
     · rename_i e;subst e;exact haq
     · exact hb.w i hi
   · rw [lift_wt]
     split
     · rename_i hc
       have ht:=hc.1.2
       rw [usAt_eq h.ok.uss] at ht
       exact Int.le_trans haq (hX.t n j hnM hj ht)
     · exact hb.t j hj
theorem settleAll_leastM {rs:List Rl} {cs:List Int} {us:List (List (Int × Int))} {rk:List Nat} {M:Nat} {X Xt:Nat→Int} (hX:SolM rs us rk cs M X Xt) (hc:cs.length=rs.length) (hM:M≤rs.length):∀ (k n:Nat) (st:St),n+k≤M→Run rs cs us rk st→BdM us M X Xt st→(settleAll rs k n st).1=none∧BdM us M X Xt (settleAll rs k n st).2
 | 0,n,st,_,_,hb=>⟨rfl,hb⟩
 | k+1,n,st,hn,h,hb=>by
  have hs:=settle_sound (last:=n) (by omega) (64*rs.length+1) st h (by rw [hc];omega)
  have hl:=settle_leastM hX (by omega) (last:=n) (by omega) (64*rs.length+1) st h hb
  rw [settleAll,if_pos hl.1]
  exact settleAll_leastM hX hc hM k (n+1) _ (by omega) hs.1 hl.2
theorem settleAll_soundM {rs:List Rl} {cs:List Int} {us:List (List (Int × Int))} {rk:List Nat} (hc:cs.length=rs.length):∀ (k n:Nat) (st:St),n+k≤rs.length→Run rs cs us rk st→(k=0→0<n→look st n 0=none)→∀ R,settleAll rs k n st=(none,R)→Run rs cs us rk R∧(0<n+k→look R (n+k) 0=none)
 | 0,n,st,hn,h,h0,R,e=>by
  simp only [settleAll] at e
  cases e
  exact ⟨h,fun hp=>h0 rfl (by omega)⟩
 | k+1,n,st,hn,h,_,R,e=>by
  have hs:=settle_sound (last:=n) (by omega) (64*rs.length+1) st h (by rw [hc];omega)
  rw [settleAll] at e
  by_cases ht:(settleP rs n (64*rs.length+1) st).1=true
  · rw [if_pos ht] at e
    have:=settleAll_soundM hc k (n+1) _ (by omega) hs.1 (fun _ _=>hs.2 ht) R e
    rw [show n+(k+1)=n+1+k by omega]
    exact this
  · rw [if_neg ht] at e
    cases e
theorem settleAll_fail {rs:List Rl} : ∀ (k n:Nat) (st:St) (f:Nat) (S:St),settleAll rs k n st=(some f,S)→n≤f∧f<n+k∧(∀ m,n+m≤f→∃ R,settleAll rs m n st=(none,R))∧∀ m,f<n+m→(settleAll rs m n st).1=some f
 | 0,n,st,f,S,e=>by simp [settleAll] at e
 | k+1,n,st,f,S,e=>by
  rw [settleAll] at e
  by_cases ht:(settleP rs n (64*rs.length+1) st).1=true
  · rw [if_pos ht] at e
    obtain ⟨h1,h2,h3,h4⟩:=settleAll_fail k (n+1) _ f S e
    refine ⟨by omega,by omega,fun m hm => ?_,fun m hm => ?_⟩
    · cases m with
      | zero=>exact ⟨_,rfl⟩
      | succ m=>
       obtain ⟨R,hR⟩:=h3 m (by omega)
       exact ⟨R,by rw [settleAll,if_pos ht];exact hR⟩
    · cases m with
      | zero=>omega
      | succ m=>rw [settleAll,if_pos ht];exact h4 m (by omega)
  · rw [if_neg ht] at e
    injection e with e1 e2
    injection e1 with e1
    subst e1
    refine ⟨Nat.le_refl _,by omega,fun m hm => ?_,fun m hm => ?_⟩
    · have:m=0:=by omega
      subst this
      exact ⟨_,rfl⟩
    · cases m with
      | zero=>omega
      | succ m=>rw [settleAll,if_neg ht]
theorem bkI_more (rs:List Rl) (m:Nat):∀ k,∃ t,bkI rs (m+k)=bkI rs m++t∧∀ b∈t,m≤b.r
 | 0=>⟨[],by simp,by simp⟩
 | k+1=>by
  obtain ⟨t,ht,hr⟩:=bkI_more rs m k
  refine ⟨t++pbs (m+k) ((rs[m+k]?.map backP).getD []),by rw [show m+(k+1)=(m+k)+1 by omega,bkI,ht,List.append_assoc],fun b hb => ?_⟩
  rcases List.mem_append.1 hb with hb | hb
  · exact hr b hb
  · rw [(pbs_mem hb).1];omega
theorem wsum_zero:∀ (l:List Pb) (n:Nat),(∀ b∈l,b.r≠n)→wsum l n=0
 | [],_,_=>rfl
 | b::l,n,h=>by
  rw [wsum,if_neg (h b List.mem_cons_self),wsum_zero l n fun c hc=>h c (List.mem_cons_of_mem _ hc)]
  rfl
def fea (rs:List Rl):Bool:=(wgh rs).1.isSome
theorem fea_iff {rs:List Rl} : fea rs=true↔∃ st c,wgh rs=(some st,c):=by
 unfold fea
 cases h:wgh rs with
 | mk o c=>cases o <;> simp
theorem wgh_of {rs:List Rl} (hA:(allE rs).2=0) (hcp:∀ r∈rs,copB r=false):wgh rs=match settleAll rs rs.length 0 (stK rs rs.length) with
      | (some n,_)=>(none,(n:Int),81)
      | (none,st)=>(some st,0,0):=by
 unfold wgh
 rw [if_neg (by rw [hA];simp),fstC_of hcp]
 obtain ⟨o,R,hR⟩:∃ o R,settleAll rs rs.length 0 (stK rs rs.length)=(o,R):=⟨_,_,rfl⟩
 rw [hR]
 cases o <;> rfl
theorem allE_take {rs:List Rl} (hA:(allE rs).2=0) (m:Nat):(allE (rs.take m)).2=0:=by
 have h1:=allE_ok hA
 unfold allE at hA ⊢
 by_cases hn:256<rs.length
 · rw [if_pos hn] at hA;cases hA
 · rw [if_neg hn] at hA
   rw [if_neg (by simp;omega),fstR_of fun r hr=>fstR_ok hA r (List.mem_of_mem_take hr)]
theorem few_gen {rs:List Rl} {st:St} (hA:(allE rs).2=0) (hcp:∀ r∈rs,copB r=false) (hrun:Run rs (csI rs) ((bkI rs rs.length).map Pb.us) ((bkI rs rs.length).map Pb.r) st) {m:Nat} (hm:m≤rs.length) (hen:∀ i,i<m→at0 st.aq i≤at0 st.ws i) :
 fea (rs.take m)=true:=by
 have hl:(rs.take m).length=m:=by simp;omega
 have hmem:∀ r∈rs.take m,r∈rs:=fun r hr=>List.mem_of_mem_take hr
 have hok:=allE_ok hA
 have hO:∀ r∈rs.take m,Ok r:=fun r hr=>hok.2 r (hmem r hr)
 have hn:(rs.take m).length≤256:=by have:=hok.1;omega
 obtain ⟨t,ht⟩:=bkI_pre rs m (rs.length - m)
 rw [show m+(rs.length - m)=rs.length by omega] at ht
 have hbt:bkI (rs.take m) (rs.take m).length=bkI rs m:=by rw [hl];exact bkI_take rs m m (Nat.le_refl _)
 have hlen:st.bk.length=(bkI rs rs.length).length:=by simpa using congrArg List.length hrun.ok.uss
 have hle:(bkI rs m).length≤st.bk.length:=by rw [hlen,ht];simp
 have hus:∀ j,j<(bkI rs m).length→usAt st.bk j=usAt (bkI rs m) j:=fun j hj=>by
  rw [usAt_eq hrun.ok.uss,usAt_eq rfl,ht,List.map_append,List.getElem?_append_left (by simpa using hj)]
 have hr:∀ j (h1:j<(bkI rs m).length) (h2:j<st.bk.length),st.bk[j].r=(bkI rs m)[j].r:=fun j h1 h2=>by
  have e:=congrArg (fun l=>l[j]?) hrun.rk
  simp only [List.getElem?_map,ht] at e
  rw [List.getElem?_eq_getElem h2,List.getElem?_append_left h1,List.getElem?_eq_getElem h1] at e
  simpa using e
 have hsol:Sol (rs.take m) (csI (rs.take m)) ((bkI (rs.take m) (rs.take m).length).map Pb.us) ((bkI (rs.take m) (rs.take m).length).map Pb.r) (fun i=>at0 st.ws i) (fun j=>wtAt st.bk j):=by
  rw [hbt]
  refine ⟨fun i j hi hj hT => ?_,fun st2 h1 h2 h3 i hi => ?_,fun i hi => ?_⟩
  · rw [csI_len,hl] at hi
    simp only [List.length_map] at hj
    rw [fstS_take hi,←usAt_eq rfl,←hus j hj] at hT
    exact hrun.sn i j (by rw [csI_len];omega) (by omega) hT
  · rw [csI_len,hl] at hi
    have hi':i<rs.length:=by omega
    have hcs:at0 (csI (rs.take m)) i=at0 (csI rs) i:=by
     rw [csI_val (by rw [hl];exact hi),csI_val hi']
     simp
    have hl2:st2.bk.length=(bkI rs m).length:=by simpa using congrArg List.length h1
    have hws:wsum st2.bk i≤wsum st.bk i:=by
     refine wsum_le _ _ i (by omega) (fun j a b => ?_) (fun b hb=>by have:=(hrun.ok.pb b hb).2.1;omega)
     have e:=congrArg (fun l=>l[j]?) h2
     simp only [List.getElem?_map] at e
     rw [List.getElem?_eq_getElem a,List.getElem?_eq_getElem (by omega)] at e
     simp only [Option.map_some,Option.some.injEq] at e
     refine ⟨e.trans (hr j (by omega) b).symm,?_⟩
     have:=h3 j (by simp;omega)
     unfold wtAt at this
     rw [List.getElem?_eq_getElem a,List.getElem?_eq_getElem b] at this
     exact this
    have h4:=hrun.ok.asum i (by rw [csI_len];exact hi')
    have h5:=hen i hi
    rw [hcs]
    omega
  · rw [csI_len,hl] at hi
    exact (hrun.ok.wb i (by rw [csI_len];omega)).2
 have hstart:=run_start hO hn
 have hbd:Bd (csI (rs.take m)) ((bkI (rs.take m) (rs.take m).length).map Pb.us) (fun i=>at0 st.ws i) (fun j=>wtAt st.bk j) (stK (rs.take m) (rs.take m).length):=by
  refine ⟨fun i hi => ?_,fun j hj => ?_⟩
  · rw [csI_len,hl] at hi
    have h1:=(hrun.ok.wb i (by rw [csI_len];omega)).1
    have h2:at0 (stK (rs.take m) (rs.take m).length).ws i=1:=by
     rw [stK_all,hl]
     simp [at0,hi]
    omega
  · rw [hbt] at hj
    simp only [List.length_map] at hj
    have h1:1≤wtAt st.bk j:=by
     unfold wtAt
     rw [List.getElem?_eq_getElem (by omega)]
     exact (hrun.ok.pb _ (List.getElem_mem _)).2.1
    have h2:wtAt (stK (rs.take m) (rs.take m).length).bk j=1:=by
     rw [stK_all]
     show wtAt (bkI (rs.take m) (rs.take m).length) j=1
     rw [hbt]
     unfold wtAt
     rw [List.getElem?_eq_getElem hj]
     exact (bkI_mem (List.getElem_mem hj)).2.1
    omega
 have hres:=settleAll_least hsol (csI_len _) (rs.take m).length 0 _ (by omega) hstart hbd
 obtain ⟨o,R,hR⟩:∃ o R,settleAll (rs.take m) (rs.take m).length 0 (stK (rs.take m) (rs.take m).length)=(o,R):=⟨_,_,rfl⟩
 rw [hR] at hres
 obtain ⟨h1,h2⟩:=hres
 simp only at h1
 subst h1
 rw [fea,wgh_of (allE_take hA m) fun r hr=>hcp r (hmem r hr),hR]
 rfl
theorem few_back {rs:List Rl} (hA:(allE rs).2=0) {M:Nat} (hM:M≤rs.length) (hf:fea (rs.take M)=true):(settleAll rs M 0 (stK rs rs.length)).1=none:=by
 obtain ⟨st',c,hw⟩:=fea_iff.1 hf
 have hF:=wgh_fin hw
 have hok:=allE_ok hA
 have hl:(rs.take M).length=M:=by simp;omega
 obtain ⟨t,ht,hrt⟩:=bkI_more rs M (rs.length - M)
 rw [show M+(rs.length - M)=rs.length by omega] at ht
 have hbt:bkI (rs.take M) (rs.take M).length=bkI rs M:=by rw [hl];exact bkI_take rs M M (Nat.le_refl _)
 have hus':=hF.run.ok.uss
 have hrk':=hF.run.rk
 rw [hbt] at hus' hrk'
 have hlen':st'.bk.length=(bkI rs M).length:=by simpa using congrArg List.length hus'
 have hwt:∀ j,j<st'.bk.length→1≤wtAt st'.bk j:=fun j hj=>by
  unfold wtAt
  rw [List.getElem?_eq_getElem hj]
  exact (hF.run.ok.pb _ (List.getElem_mem _)).2.1
 have hsol:SolM rs ((bkI rs rs.length).map Pb.us) ((bkI rs rs.length).map Pb.r) (csI rs) M (fun i=>at0 st'.ws i) (fun j=>if j<st'.bk.length then wtAt st'.bk j else 64):=by
  refine ⟨fun i j hi hj hT => ?_,fun st2 h1 h2 h3 i hi => ?_,fun i hi => ?_⟩
  · split
    · rename_i hj'
      rw [ht,List.map_append,List.getElem?_append_left (by simp;omega),←hus',←usAt_eq rfl,←fstS_take hi] at hT
      exact hF.run.sn i j (by rw [csI_len,hl];exact hi) hj' hT
    · exact (hF.run.ok.wb i (by rw [csI_len,hl];exact hi)).2
  · have hi':i<rs.length:=by omega
    have hcs:at0 (csI (rs.take M)) i=at0 (csI rs) i:=by
     rw [csI_val (by rw [hl];exact hi),csI_val hi']
     simp
    have hl2:st2.bk.length=(bkI rs rs.length).length:=by simpa using congrArg List.length h1
    have hl3:(bkI rs rs.length).length=(bkI rs M).length+t.length:=by rw [ht];simp
    have hsp:wsum st2.bk i=wsum (st2.bk.take (bkI rs M).length) i+wsum (st2.bk.drop (bkI rs M).length) i:=by
     rw [←wsum_append,List.take_append_drop]
    have hz:wsum (st2.bk.drop (bkI rs M).length) i=0:=by
     refine wsum_zero _ _ fun b hb => ?_
     have hb2:b.r∈(st2.bk.drop (bkI rs M).length).map Pb.r:=List.mem_map_of_mem hb
     rw [List.map_drop,h2,ht,List.map_append,List.drop_left' (by simp)] at hb2
     obtain ⟨c,hc,e⟩:=List.mem_map.1 hb2
     have:=hrt c hc
     omega
    have hws:wsum (st2.bk.take (bkI rs M).length) i≤wsum st'.bk i:=by
     refine wsum_le _ _ i (by simp;omega) (fun j a b => ?_) (fun b hb=>by have:=(hF.run.ok.pb b hb).2.1;omega)
     have a':j<st2.bk.length:=by simp at a;omega
     have e:=congrArg (fun l=>l[j]?) h2
     have e':=congrArg (fun l=>l[j]?) hrk'
     simp only [List.getElem?_map] at e e'
     rw [List.getElem?_eq_getElem a',ht,List.getElem?_append_left (by omega)] at e
     rw [List.getElem?_eq_getElem b] at e'
     rw [←e'] at e
     simp only [Option.map_some,Option.some.injEq] at e
     refine ⟨by simpa using e,?_⟩
     have:=h3 j (by simp;omega)
     simp only [if_pos b] at this
     unfold wtAt at this
     rw [List.getElem?_eq_getElem a',List.getElem?_eq_getElem b] at this
     simpa using this
    have h4:=hF.run.ok.asum i (by rw [csI_len,hl];exact hi)
    have h5:=hF.en i (by rw [hl];exact hi)
    rw [hcs] at h4
    show at0 (csI rs) i+wsum st2.bk i≤at0 st'.ws i
    omega
  · exact (hF.run.ok.wb i (by rw [csI_len,hl];exact hi)).2
 have hbd:BdM ((bkI rs rs.length).map Pb.us) M (fun i=>at0 st'.ws i) (fun j=>if j<st'.bk.length then wtAt st'.bk j else 64) (stK rs rs.length):=by
  refine ⟨fun i hi => ?_,fun j hj => ?_⟩
  · have h1:=(hF.run.ok.wb i (by rw [csI_len,hl];exact hi)).1
    have h2:at0 (stK rs rs.length).ws i=1:=by
     rw [stK_all]
     have:i<rs.length:=by omega
     simp [at0,this]
    show at0 _ i≤at0 st'.ws i
    omega
  · simp only [List.length_map] at hj
    have h2:wtAt (stK rs rs.length).bk j=1:=by
     rw [stK_all]
     show wtAt (bkI rs rs.length) j=1
     unfold wtAt
     rw [List.getElem?_eq_getElem hj]
     exact (bkI_mem (List.getElem_mem hj)).2.1
    split
    · rename_i hj'
      have:=hwt j hj'
      omega
    · omega
 exact (settleAll_leastM hsol (csI_len _) hM M 0 _ (by omega) (run_start hok.2 hok.1) hbd).1
theorem wgh_first {rs:List Rl} (hA:(allE rs).2=0) (hcp:∀ r∈rs,copB r=false) (hf:fea rs=false):∃ n,n<rs.length∧chkW rs=((n:Int),81)∧(∀ m,m≤n→fea (rs.take m)=true)∧fea (rs.take (n+1))=false:=by
 have hw:=wgh_of hA hcp
 have hok:=allE_ok hA
 obtain ⟨o,R,hR⟩:∃ o R,settleAll rs rs.length 0 (stK rs rs.length)=(o,R):=⟨_,_,rfl⟩
 rw [hR] at hw
 cases o with
 | none=>rw [fea,hw] at hf;cases hf
 | some n=>
  simp only at hw
  obtain ⟨_,h2,h3,h4⟩:=settleAll_fail _ _ _ _ _ hR
  refine ⟨n,by omega,by rw [chkW,hw],fun m hm => ?_,?_⟩
  · obtain ⟨S,hS⟩:=h3 m (by omega)
    have hs:=settleAll_soundM (csI_len rs) m 0 _ (by omega) (run_start hok.2 hok.1) (fun _ h=>by omega) S hS
    rw [Nat.zero_add] at hs
    refine few_gen hA hcp hs.1 (by omega) fun i hi => ?_
    exact (look_none (hs.2 (by omega)) i (Nat.zero_le _) (by omega)).2
  · cases hx:fea (rs.take (n+1)) with
    | false=>rfl
    | true=>
     have:=few_back hA (M:=n+1) (by omega) hx
     rw [h4 (n+1) (by omega)] at this
     cases this
theorem chkW_fea {rs:List Rl} (h:fea rs=true):chkW rs=(0,0):=by
 obtain ⟨st,c,hw⟩:=fea_iff.1 h
 have hF:=wgh_fin hw
 unfold wgh at hw
 unfold chkW wgh
 split at hw
 · injection hw with h1;cases h1
 · rename_i h0
   rw [if_neg h0]
   split at hw
   · injection hw with h1;cases h1
   · split at hw
     · injection hw with h1;cases h1
     · rfl
structure Fx (rs:List Rl) (L W:List Int):Prop where
 e:W.length=L.length
 b:∀ k,k<L.length→1≤bAt W k∧bAt W k≤64
 f:∀ (i:Nat) (hi:i<rs.length) (x:Int × Int),x∈fstS rs i→∀ k,plc L x.1≤k→k<L.length→bAt L k≤x.2→wnt L W rs[i]≤bAt W k
theorem touch_ov:∀ (a b:List (Int × Int)),touchL a b=true→∃ x∈a,∃ y∈b,x.1≤y.2∧y.1≤x.2
 | [],b,h=>by cases b <;> simp [touchL,touchF] at h
 | x::a,[],h=>by simp [touchL,touchF] at h
 | x::a,y::b,h=>by
  rw [touch_cons] at h
  split at h
  · obtain ⟨p,hp,q,hq,h1⟩:=touch_ov a (y::b) h
    exact ⟨p,List.mem_cons_of_mem _ hp,q,hq,h1⟩
  · split at h
    · obtain ⟨p,hp,q,hq,h1⟩:=touch_ov (x::a) b h
      exact ⟨p,hp,q,List.mem_cons_of_mem _ hq,h1⟩
    · exact ⟨x,List.mem_cons_self,y,List.mem_cons_self,by omega,by omega⟩
termination_by a b=>a.length+b.length
theorem grK_ge {L W:List Int} {hi:Int} (hS:L.Pairwise (· < ·)):∀ (f p:Nat) (n:Int) (k:Nat),p≤k→k<L.length→bAt L k≤hi→k<p+f→bAt W k≤grK L W hi f p n
 | 0,p,n,k,h1,_,_,h2=>by omega
 | f+1,p,n,k,h1,hk,hl,h2=>by
  rw [grK,if_pos ⟨by omega,Int.le_trans (rise_le hS h1 hk) hl⟩]
  by_cases e:p=k
  · subst e
    refine Int.le_trans ?_ (grK_mono f _ _)
    split <;> omega
  · exact grK_ge hS f (p+1) _ k (by omega) hk hl (by omega)
theorem grt_mono {L W:List Int} : ∀ (s:List (Int × Int)) (n:Int),n≤s.foldl (gr1 L W) n
 | [],n=>Int.le_refl n
 | x::s,n=>by
  rw [List.foldl_cons]
  exact Int.le_trans (grK_mono _ _ _) (grt_mono s _)
theorem grt_ge {L W:List Int} (hS:L.Pairwise (· < ·)):∀ (s:List (Int × Int)) (n:Int) (x:Int × Int),x∈s→∀ k,plc L x.1≤k→k<L.length→bAt L k≤x.2→bAt W k≤s.foldl (gr1 L W) n
 | [],n,x,h,k,_,_,_=>by cases h
 | y::s,n,x,h,k,h1,h2,h3=>by
  rw [List.foldl_cons]
  rcases List.mem_cons.1 h with rfl | h
  · exact Int.le_trans (grK_ge hS _ _ _ k h1 h2 h3 (by omega)) (grt_mono s _)
  · exact grt_ge hS s _ x h k h1 h2 h3
theorem grt_one_le {L W:List Int} (hS:L.Pairwise (· < ·)) {u:Int} (hu:u∈L) (h0:0≤bAt W (plc L u)):grt L W [(u,u)]≤bAt W (plc L u):=by
 refine grt_le _ h0 fun x hx j h1 h2 h3 => ?_
 simp at hx
 subst hx
 have ha:=plc_at hS hu
 by_cases e:plc L u=j
 · rw [e];exact Int.le_refl _
 · have:=rise_lt hS (show plc L u<j by simp at h1;omega) h2
   simp at h3
   omega
theorem bkI_may {rs:List Rl} : ∀ {k:Nat} {b:Pb},b∈bkI rs k→∃ r∈rs,∃ p∈backP r,p.k≠2∧b.us=mayB p
 | 0,b,hb=>by simp [bkI] at hb
 | k+1,b,hb=>by
  rw [bkI] at hb
  rcases List.mem_append.1 hb with hb | hb
  · exact bkI_may hb
  · obtain ⟨p,h1,h2,h3⟩:=pbs_mem2 hb
    cases hk:rs[k]? with
    | none=>rw [hk] at h1;simp at h1
    | some r=>
     rw [hk] at h1
     exact ⟨r,List.mem_of_getElem? hk,p,by simpa using h1,h2,h3⟩
theorem kind_ok {rs:List Rl} (hO:∀ r∈rs,Ok r) {r:Rl} (hr:r∈rs) {p:Pc} (hp:p∈backP r):p.k=1∨p.k=2∨p.k=3:=by
 rcases pc_ok ((hO r hr).pc p (List.mem_of_mem_drop hp)) with ⟨h1,_⟩ | ⟨h1,_⟩ | ⟨h1,_⟩ <;> omega
theorem mayB_some {r:Rl} (hO:Ok r) {p:Pc} (hp:p∈backP r) (h2:p.k≠2):mayB p≠[]:=by
 rcases pc_ok (hO.pc p (List.mem_of_mem_drop hp)) with ⟨h1,hw,_⟩ | ⟨h1,_⟩ | ⟨h1,_,h3,h4,hm⟩
 · unfold mayB
   rw [if_neg (by omega)]
   simp
 · exact absurd h1 h2
 · unfold mayB
   rw [if_pos h1]
   unfold matB at hm
   simp only [Bool.and_eq_true,decide_eq_true_eq] at hm
   have hy:p.y.toNat<r.key.length:=by omega
   have hk:keyAt r.key p.y=r.key[p.y.toNat]:=by simp [keyAt,hy]
   have:=lenU_ok (List.all_eq_true.1 hO.kS _ (List.getElem_mem hy))
   intro e
   rw [e,hk] at hm
   have h0:=hm.2
   rw [h0] at this
   simp [lenU,tot] at this
theorem gs_of {L W:List Int} {rs:List Rl} (hO:∀ r∈rs,Ok r) (hS:Srt (0::bords rs) L) (hW:∀ k,k<L.length→1≤bAt W k) {r:Rl} (hr:r∈rs) (n:Nat):∀ l:List Pc,(∀ p∈l,p∈backP r)→gs (grt L W) (pbs n l) n≤pcS L W l
 | [],_=>by simp [pcS,pbs,gs]
 | p::l,hl=>by
  have ih:=gs_of (W:=W) hO hS hW hr n l fun q hq=>hl q (List.mem_cons_of_mem _ hq)
  have hp:=hl p List.mem_cons_self
  simp only [pcS,pbs]
  rcases kind_ok hO hr hp with h1 | h1 | h1
  · rw [if_neg (by omega)]
    have hm:p.u∈L:=(hS.m _).2 (List.mem_cons_of_mem _ (mem_may hr hp (.inl h1) (x:=(p.u,p.u)) (by rw [mayB,if_neg (by omega)];simp)))
    have h0:=hW _ (plc_lt p.u (List.length_pos_of_mem hm))
    have:=grt_one_le (W:=W) hS.p hm (by omega)
    have e:mayB p=[(p.u,p.u)]:=by unfold mayB;rw [if_neg (by omega)]
    simp only [gs,if_pos,e]
    rw [pcW,if_pos h1]
    omega
  · rw [if_pos h1,pcW,if_neg (by omega),if_neg (by omega)];omega
  · rw [if_neg (by omega)]
    have e:mayB p=p.tl:=by unfold mayB;rw [if_pos h1]
    simp only [gs,if_pos,e]
    rw [pcW,if_neg (by omega),if_pos h1]
    omega
theorem wsum_gs {g:List (Int × Int)→Int} : ∀ {l:List Pb},(∀ b∈l,b.wt≤g b.us)→∀ n,wsum l n≤gs g l n
 | [],_,n=>by simp [gs,wsum]
 | b::l,h,n=>by
  have h1:=wsum_gs (fun x hx=>h x (List.mem_cons_of_mem _ hx)) n
  have h2:=h b List.mem_cons_self
  simp only [gs,wsum]
  split <;> omega
def wntI (L W:List Int) (rs:List Rl) (i:Nat):Int:=(rs[i]?.map (wnt L W)).getD 0
theorem wntI_at {L W:List Int} {rs:List Rl} {i:Nat} (h:i<rs.length):wntI L W rs i=wnt L W rs[i]:=by simp [wntI,h]
theorem fst_mem {rs:List Rl} {i:Nat} (hi:i<rs.length) {x:Int × Int} (hx:x∈fstS rs i):x.1∈bords rs∧x.2+1∈bords rs:=by
 rw [fstS_at hi] at hx
 exact ⟨mem_bords (List.getElem_mem hi) (List.mem_append_left _ (List.mem_flatMap.2 ⟨x,hx,by simp⟩)),mem_bords (List.getElem_mem hi) (List.mem_append_left _ (List.mem_flatMap.2 ⟨x,hx,by simp⟩))⟩
theorem Fx.fea {rs:List Rl} {L W:List Int} (h:Fx rs L W) (hS:Srt (0::bords rs) L) (hA:(allE rs).2=0) (hcp:∀ r∈rs,copB r=false) :
 ∃ st,wgh rs=(some st,0,0)∧∀ i (hi:i<rs.length),at0 st.ws i≤max 1 (wnt L W rs[i]):=by
 have hok:=allE_ok hA
 have hO:=hok.2
 have hpos:0<L.length:=List.length_pos_of_mem ((hS.m 0).2 (by simp))
 have husb:∀ j,j<(bkI rs rs.length).length→∃ r∈rs,∃ p∈backP r,p.k≠2∧(((bkI rs rs.length).map Pb.us)[j]?).getD []=mayB p:=fun j hj=>by
  obtain ⟨r,hr,p,hp,h2,e⟩:=bkI_may (List.getElem_mem hj)
  refine ⟨r,hr,p,hp,h2,?_⟩
  rw [List.getElem?_map,List.getElem?_eq_getElem hj]
  simpa using e
 have hmL:∀ {r:Rl} (_:r∈rs) {p:Pc} (_:p∈backP r) (_:p.k≠2) {y:Int × Int} (_:y∈mayB p),y.1∈L∧y.1≤y.2:=fun {r} hr {p} hp h2 {y} hy=>
  ⟨(hS.m _).2 (List.mem_cons_of_mem _ (mem_may hr hp (by have:=kind_ok hO hr hp;omega) hy)),((mayB_good (hO r hr) hp h2).1 y hy).1⟩
 have hsol:Sol rs (csI rs) ((bkI rs rs.length).map Pb.us) ((bkI rs rs.length).map Pb.r) (fun i=>max 1 (wntI L W rs i)) (fun j=>grt L W ((((bkI rs rs.length).map Pb.us)[j]?).getD [])):=by
  refine ⟨fun i j hi hj hT => ?_,fun st2 h1 h2 h3 i hi => ?_,fun i hi => ?_⟩
  · rw [csI_len] at hi
    simp only [List.length_map] at hj
    obtain ⟨r,hr,p,hp,h2,e⟩:=husb j hj
    rw [e] at hT ⊢
    obtain ⟨x,hx,y,hy,h4,h5⟩:=touch_ov _ _ hT
    have hxw:=((key_good hO hi).1 x hx).1
    obtain ⟨hyL,hyw⟩:=hmL hr hp h2 hy
    have hxL:x.1∈L:=(hS.m _).2 (List.mem_cons_of_mem _ (fst_mem hi hx).1)
    obtain ⟨u,hu,hux,huy,hu1,hu2⟩:∃ u∈L,x.1≤u∧y.1≤u∧u≤x.2∧u≤y.2:=by
     by_cases hc:x.1≤y.1
     · exact ⟨y.1,hyL,hc,Int.le_refl _,h5,hyw⟩
     · exact ⟨x.1,hxL,Int.le_refl _,by omega,hxw,h4⟩
    have hk:=plc_lt u hpos
    have hku:=plc_at hS.p hu
    have hge:∀ v∈L,v≤u→plc L v≤plc L u:=fun v hv hvu=>by
     have hv1:=plc_at hS.p hv
     rcases Nat.lt_or_ge (plc L u) (plc L v) with hlt | hlt
     · have:=rise_lt hS.p hlt (plc_lt v hpos)
       omega
     · exact hlt
    have h6:=h.f i hi x hx (plc L u) (hge _ hxL hux) hk (by omega)
    have h7:=grt_ge (W:=W) hS.p (mayB p) 0 y hy (plc L u) (hge _ hyL huy) hk (by omega)
    have h8:=(h.b _ hk).1
    have h9:bAt W (plc L u)≤grt L W (mayB p):=h7
    show max 1 (wntI L W rs i)≤grt L W (mayB p)
    rw [wntI_at hi]
    omega
  · rw [csI_len] at hi
    have h4:wsum st2.bk i≤gs (grt L W) st2.bk i:=wsum_gs (fun b hb=>by
     obtain ⟨j,hj,rfl⟩:=List.getElem_of_mem hb
     have hl2:st2.bk.length=(bkI rs rs.length).length:=by simpa using congrArg List.length h1
     have:=h3 j (by simp;omega)
     unfold wtAt at this
     rw [List.getElem?_eq_getElem hj,←h1,List.getElem?_map,List.getElem?_eq_getElem hj] at this
     simpa using this) i
    have h5:gs (grt L W) st2.bk i=gs (grt L W) (pbs i (backP rs[i])) i:=by
     rw [gs_same h2 h1,gs_bkI,if_pos hi,List.getElem?_eq_getElem hi]
     rfl
    have h6:=gs_of (W:=W) hO hS (fun k hk=>(h.b k hk).1) (List.getElem_mem hi) i (backP rs[i]) fun p hp=>hp
    show at0 (csI rs) i+wsum st2.bk i≤max 1 (wntI L W rs i)
    rw [csI_val hi,wntI_at hi]
    unfold wnt
    omega
  · rw [csI_len] at hi
    show max 1 (wntI L W rs i)≤64
    rw [wntI_at hi]
    have hne:fstS rs i≠[]:=by
     have hr:=hO _ (List.getElem_mem hi)
     have h0:=hr.k0
     have:=List.all_eq_true.1 hr.kS _ (List.getElem_mem h0)
     rw [fstS_at hi,show keyAt rs[i].key 0=rs[i].key[0] by simp [keyAt,h0]]
     intro e
     rw [e] at this
     simp [okS] at this
    obtain ⟨x,hx⟩:=List.exists_mem_of_ne_nil _ hne
    have hxL:x.1∈L:=(hS.m _).2 (List.mem_cons_of_mem _ (fst_mem hi hx).1)
    have hk:=plc_lt x.1 hpos
    have h1:=h.f i hi x hx (plc L x.1) (Nat.le_refl _) hk (by rw [plc_at hS.p hxL];exact ((key_good hO hi).1 x hx).1)
    have h2:=(h.b _ hk).2
    omega
 have hbd:Bd (csI rs) ((bkI rs rs.length).map Pb.us) (fun i=>max 1 (wntI L W rs i)) (fun j=>grt L W ((((bkI rs rs.length).map Pb.us)[j]?).getD [])) (stK rs rs.length):=by
  refine ⟨fun i hi => ?_,fun j hj => ?_⟩
  · rw [csI_len] at hi
    have h2:at0 (stK rs rs.length).ws i=1:=by
     rw [stK_all]
     simp [at0,hi]
    show at0 _ i≤max 1 _
    omega
  · simp only [List.length_map] at hj
    have h2:wtAt (stK rs rs.length).bk j=1:=by
     rw [stK_all]
     show wtAt (bkI rs rs.length) j=1
     unfold wtAt
     rw [List.getElem?_eq_getElem hj]
     exact (bkI_mem (List.getElem_mem hj)).2.1
    obtain ⟨r,hr,p,hp,h3,e⟩:=husb j hj
    show wtAt _ j≤grt L W _
    rw [e,h2]
    obtain ⟨y,hy⟩:=List.exists_mem_of_ne_nil _ (mayB_some (hO r hr) hp h3)
    obtain ⟨hyL,hyw⟩:=hmL hr hp h3 hy
    have hk:=plc_lt y.1 hpos
    have:=grt_ge (W:=W) hS.p (mayB p) 0 y hy (plc L y.1) (Nat.le_refl _) hk (by rw [plc_at hS.p hyL];exact hyw)
    exact Int.le_trans (h.b _ hk).1 this
 have hres:=settleAll_least hsol (csI_len _) rs.length 0 _ (by omega) (run_start hO hok.1) hbd
 obtain ⟨o,R,hR⟩:∃ o R,settleAll rs rs.length 0 (stK rs rs.length)=(o,R):=⟨_,_,rfl⟩
 rw [hR] at hres
 obtain ⟨h1,h2⟩:=hres
 simp only at h1
 subst h1
 refine ⟨R,by rw [wgh_of hA hcp,hR],fun i hi => ?_⟩
 have:=h2.w i (by rw [csI_len];exact hi)
 rw [←wntI_at hi]
 exact this
end Go.Proofs
