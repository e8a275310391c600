/-
  All lines of a row of tokens.
-/
import Derived.Shelf.Abstract
import Derived.WalkKit
import Derived.WalkSpells
import Derived.WalkLawsBesides
import Derived.BigQuiet
import Derived.Deep.QuietTactic
import Derived.Deep.LoopGhost
import Derived.Deep.RegionHeld3
import Derived.Shelf.RegionOpen
import Derived.Defers
import Derived.Recover
import Derived.RegionDies
import Derived.Deep.AppendLies
import Derived.WalkMore
import Derived.Test.YtknaoahokopplaaGreatDoorMgsk
import Derived.Test.YtknaoahokopplaaGreatDoorMgrk
namespace Go.Proofs
open Go.RowKit Go.Shelf
set_option maxRecDepth 100000
attribute [local go_sem] Oper.semAt_some
structure TR (w:World) (G c:Nat) (ts:List Tok) (e:Int):Prop where
 cap:ts.length+1≤c∧c≤maxLen
 tk:∀ j x,(ts++[sen e])[j]? = some x→TokAt w G (j*6) x
 good:∀ t,t∈ts→GoodT t
theorem RdX.drew {w:World} {R G:Nat} {ts:List Tok} {e:Int} (h:RdX w R G ts e):RdX w.drew R G ts e:=by
 obtain ⟨o,c,h⟩:=h
 exact ⟨o,c,h.step rfl rfl⟩
theorem Mv.drew {w w':World} {R:Nat} {y:Option Nat} (h:Mv w.drew w' R y):Mv w w' R y:=⟨h.os,h.tape,h.output,h.size,h.block⟩
def leftOf (R:Nat) (w:World):Nat:=match w.cell? ⟨R,0,none⟩ with
 | some (.slice _ n _)=>n
 | _=>0
theorem RdX.left {w:World} {R G:Nat} {ts:List Tok} {e:Int} (h:RdX w R G ts e):leftOf R w=ts.length+1:=by
 obtain ⟨o,c,h⟩:=h
 simp [leftOf,h.cellR.1]
def RowsL (w:World) (b:Nat) (v:Value) (l:List Ln):Prop:=∃ A c ms,v = .slice A l.length c∧All2 (LR 3 w b none) ms l∧((l=[]∧A=none∧c=0)∨∃ g cur,A=some ⟨g,0,none⟩∧b≤g∧w.heap[g]? = some (.cells cur 44 (0,0))∧cur.toList.take (l.length*10)=fl10 ms∧l.length≤c∧cur.size=c*10)
theorem OwnL.rows {w:World} {b:Nat} {v:Value} {l:List Ln} (h:OwnL w b v l):RowsL w b v l:=by
 obtain ⟨A,c,rfl⟩:=h.form
 obtain ⟨ms,h1,h2⟩:=h
 have hl:=h2.length
 refine ⟨A,c,ms,rfl,h2.mono fun _ _ r=>r.step (Nat.le_refl _) (.inr (.inl rfl)) (fun k _ _ _=>rfl),?_⟩
 rcases h1.2 with ⟨e,h0⟩ | ⟨g,cap,cur,e,k1,k2,k3,k4,k5,k6⟩
 · left
   injection e with e1 e2 e3
   refine ⟨?_,e1,e3⟩
   cases l with
   | nil=>rfl
   | cons _ _=>simp at hl;omega
 · injection e with e1 e2 e3
   subst e1
   exact .inr ⟨g,cur,rfl,k1,k2,by rw [←hl];exact k6,by omega,by rw [e3];exact k5⟩
theorem step_L {ops:Array Oper} {o:Oper} {a:Act} {K:Act→World→Prop} {Q:Exit→Act→World→Prop} {E:Prop} {w:World} (hgd:o.guard=none) (s x:Operand) (t:TypeId)
 (ho:o.op = .call { callee := .builtin .append,args:=#[s,x],argTypes:=#[t,t] }) (ht:Tryz.prog.underlying t=some (.slice 44))
 (b:Nat) (v:Value) (l:List Ln) (hs:a.eval s=v) (hown:OwnL w b v l) (g c:Nat) (m:ML) (i:Ln) (hx:a.eval x = .slice (some ⟨g,0,none⟩) 1 c)
 (hy:w.heap[g]? = some (.cells (ml1 m).toArray 44 (0,0))) (hm:LR 3 w b v.ownBlock m i) (hl:l.length+1≤549755813888) (hbase:b≤w.heap.size)
 (h:∀ A c' w',OwnL w' b (.slice A (l.length+1) c') (l++[i])→w.grownBy w' v.ownBlock→K (a.put o.dst (.slice A (l.length+1) c')) w') :
 if Region.wanted o (yielded ops a.tmps)=true then Oper.wp Tryz.prog o a w K Q else E:=by
 obtain ⟨i0,hi,hz0,hz1,hz2⟩:=info_parts info39
 obtain ⟨ms,h1,h2⟩:=hown
 have hlen:=h2.length
 refine step_append_lies w hgd s x t ho b 44 i0 _ 10 144 ht hi hz0 hz1 hz2 rfl (by decide) v ms.length (fl10 ms) hs h1 ⟨g,0,none⟩ 1 c (fl10 [m]) hx rfl ?_ (fl10_one _) (by decide) (by unfold maxLen;omega) (by omega) hbase _ rfl (fun g' cap w' k2 k3 k5 _ => ?_)
 · intro j u hj
   have e:(fl10 [m])=ml1 m:=by simp [fl10]
   rw [e] at hj
   rw [add_zero_at']
   simp only [World.cell?,hy]
   simpa using hj
 · rw [hlen] at k2 ⊢
   refine h _ _ w' ⟨ms++[m],?_,?_⟩ k3
   · rw [fl10_append,List.length_append,hlen]
     exact k2
   · have hst:∀ k,k<w.heap.size→b≤k→some k≠v.ownBlock→w'.heap[k]? = w.heap[k]? := fun k q1 _ q3=>k3.block k q1 q3
     have hx':(Value.slice (some ⟨g',0,none⟩) (l.length+1) cap).ownBlock=v.ownBlock∨(Value.slice (some ⟨g',0,none⟩) (l.length+1) cap).ownBlock=none∨∀ g,(Value.slice (some ⟨g',0,none⟩) (l.length+1) cap).ownBlock=some g→w.heap.size≤g∨g<b:=by
      rcases k5 with e | e
      · exact .inl e.symm
      · exact .inr (.inr fun g e2 => .inl (by have:=Option.some.inj e2;simp at this;omega))
     exact (h2.mono fun _ _ r=>r.step (Nat.le_refl _) hx' hst).append ⟨hm.step (Nat.le_refl _) hx' hst,trivial⟩
def ReadRel (e:Int) (G:Nat) (w:World) (ts:List Tok) (wr:World):Prop:=
 ∃ f1 ts1 pre A c,ts1.length≤f1∧RdX wr (w.heap.size+1+1) G ts1 e∧wr.heap[w.heap.size]? = some (.cells #[.slice A pre.length c] 29 (0,0))∧FB wr (w.heap.size+1) 0 0∧OwnL wr (w.heap.size+1+1+1) (.slice A pre.length c) pre∧Below w.heap.size w wr∧pre.length+ts1.length≤ts.length ∧
  linesT e ts.length ts=match linesT e f1 ts1 with | .ok ls r => .ok (pre++ls) r | .no a c => .no a c
def LinesOut (w:World) (s:Res (List Ln)) (x:Ending) (w':World):Prop:=
 Below w.heap.size w w'∧match s with
 | .ok ls _=>∃ v,x = .returned (.tuple #[v,.agg #[.int .i64 0,.int .i64 0]])∧RowsL w' w.heap.size v ls
 | .no a c=>x = .returned (.tuple #[.slice none 0 0,.agg #[.int .i64 a,.int .i64 c]])
set_option maxHeartbeats 1000000 in
theorem read_any (e:Int) (G c:Nat) (ts:List Tok) (hts:ts.length≤1000000) (w:World) (h:TR w G c ts e) :
 Calls Tryz.prog 28 #[.slice (some ⟨G,0,none⟩) (ts.length+1) c] w (LinesOut w (linesT e ts.length ts)):=by
 have hmf:∀ (fn:Fn) (first cap:Array Value) (w:World),(Instr.makeFunc fn first cap).run Tryz.prog w = .ok (.func fn first cap) w:=fun _ _ _ _=>rfl
 have hGl:G<w.heap.size:=by
  obtain ⟨x,hx⟩:∃ x,(ts++[sen e])[0]? = some x:=⟨(ts++[sen e])[0]'(by simp),List.getElem?_eq_getElem _⟩
  obtain ⟨ob,ho,_⟩:=cells_of_cell (h.tk 0 x hx).1
  exact (Array.getElem?_eq_some_iff.1 ho).1
 have h0:Hid (ReadRel e G w ts (((w.alloc (.cells #[.slice none 0 0] 29)).alloc (.cells #[.int .i64 0,.int .i64 0] 32)).alloc (.cells #[.slice (some ⟨G,0,none⟩) (ts.length+1) c] 95))):=by
  have hb:Below w.heap.size w (((w.alloc (.cells #[.slice none 0 0] 29)).alloc (.cells #[.int .i64 0,.int .i64 0] 32)).alloc (.cells #[.slice (some ⟨G,0,none⟩) (ts.length+1) c] 95)):=(((Below.refl _ w).alloc (Nat.le_refl _) _).alloc (by simp) _).alloc (by simp;omega) _
  refine ⟨ts.length,ts,[],none,0,Nat.le_refl _,⟨0,c,?_,by omega,h.cap,?_,h.good⟩,?_,?_,OwnL.nil _ _,hb,by simp,by cases linesT e ts.length ts <;> simp⟩
  · have:=World.alloc_heap_new ((w.alloc (.cells #[.slice none 0 0] 29)).alloc (.cells #[.int .i64 0,.int .i64 0] 32)) (.cells #[.slice (some ⟨G,0,none⟩) (ts.length+1) c] 95)
    simpa using this
  · intro j x hj
    rw [Nat.zero_add]
    exact (h.tk j x hj).of_block (hb.block G hGl)
  · exact (Below.heap_alloc _ _ _ (by simp;omega)).trans ((Below.heap_alloc _ _ _ (by simp)).trans (World.alloc_heap_new _ _))
  · have:=FB.new (w.alloc (.cells #[.slice none 0 0] 29)) 0 0
    rw [World.size_alloc] at this
    exact this.allocs _
 clear h
 go_enter_defers Tryz.func28,Tryz.ntmps28
 go_wp2
 go_loopw [] (fun wr=>Hid (ReadRel e G w ts wr)) (fun wr=>leftOf (w.heap.size+1+1) wr)
 case atStart=>exact h0
 case round=>
  obtain ⟨f1,ts1,pre,A,c1,hf1,hR1,hL1,hF1,hO1,hB1,hn1,hT1⟩:=hrel.out
  clear hrel h0
  have HT:Hid (linesT e ts.length ts=match linesT e f1 ts1 with | .ok ls r => .ok (pre++ls) r | .no a c => .no a c):=hT1
  have HH:Hid (RdX wr (w.heap.size+1+1) G ts1 e∧wr.heap[w.heap.size]? = some (.cells #[.slice A pre.length c1] 29 (0,0))∧FB wr (w.heap.size+1) 0 0∧OwnL wr (w.heap.size+1+1+1) (.slice A pre.length c1) pre∧Below w.heap.size w wr):=⟨hR1,hL1,hF1,hO1,hB1⟩
  clear hR1 hL1 hF1 hO1 hB1 hT1
  by_cases h0:nxt ts1=0
  · have ho:Hid (linesT e ts.length ts = .ok pre ts1):=by
     show _=_
     rw [HT.out]
     cases f1 <;> simp [linesT,h0]
    clear HT
    go_wp2_with fail
    refine (next_any _ (w.heap.size+1+1) G ts1 e HH.out.1).mono ?_
    rintro x w2 ⟨rfl,hb2⟩
    rw [h0]
    have hl2:w.heap.size+1+1<wr.heap.size:=HH.out.1.lt.1
    have hL2:w2.heap[w.heap.size]? = some (.cells #[.slice A pre.length c1] 29 (0,0)):=(hb2.block _ (by omega)).trans HH.out.2.1
    have hF2:FB w2 (w.heap.size+1) 0 0:=HH.out.2.2.1.below hb2 (by omega)
    have HX:Hid (OwnL w2 (w.heap.size+1+1+1) (.slice A pre.length c1) pre∧Below w.heap.size w w2∧w2.heap[w.heap.size]? = some (.cells #[.slice A pre.length c1] 29 (0,0))∧FB w2 (w.heap.size+1) 0 0):=⟨HH.out.2.2.2.1.step (fun k h1 _=>hb2.block k h1),HH.out.2.2.2.2.trans (hb2.mono (by omega)),hL2,hF2⟩
    have p0:w2.cell? ⟨w.heap.size,0,none⟩=some (.slice A pre.length c1):=by simp [World.cell?,hL2]
    have p1:w2.frozen? ⟨w.heap.size,0,none⟩=false:=by simp [World.frozen?,hL2]
    obtain ⟨q0,q1,q2,q3⟩:=hF2.cells
    clear hL2 hF2 HH hb2
    go_wp2
    obtain ⟨W,hW⟩:∃ W,((w2.setCell ⟨w.heap.size,0,none⟩ (.slice A pre.length c1)).setCell ⟨w.heap.size+1,0,none⟩ (.int .i64 0)).setCell ⟨w.heap.size+1,1,none⟩ (.int .i64 0)=W:=⟨_,rfl⟩
    have hz2:w.heap.size+1<w2.heap.size:=HX.out.2.2.2.lt
    have hLW:W.heap[w.heap.size]? = some (.cells #[.slice A pre.length c1] 29 (0,0)):=by
     rw [←hW,heap_set_other _ (by omega),heap_set_other _ (by omega)]
     exact cells_setS HX.out.2.2.1
    have hFW:FB W (w.heap.size+1) 0 0:=by
     rw [←hW]
     exact FB.set (show FB (w2.setCell ⟨w.heap.size,0,none⟩ (.slice A pre.length c1)) (w.heap.size+1) 0 0 from (heap_set_other _ (by omega) _ _).trans HX.out.2.2.2) 0 0
    have hBW:Below w.heap.size w W:=by
     rw [←hW]
     exact ((HX.out.2.1.setCell (p:=⟨w.heap.size,0,none⟩) (Nat.le_refl _) _).setCell (p:=⟨w.heap.size+1,0,none⟩) (Nat.le_succ _) _).setCell (p:=⟨w.heap.size+1,1,none⟩) (Nat.le_succ _) _
    have hOW:OwnL W (w.heap.size+1+1+1) (.slice A pre.length c1) pre:=by
     rw [←hW]
     exact HX.out.1.step (fun k h1 h2=>(heap_set_other _ (by omega) _ _).trans ((heap_set_other _ (by omega) _ _).trans (heap_set_other _ (by omega) _ _)))
    rw [hW]
    clear hW
    refine leaves_cons (f:=52) (args:=#[.pointer (some ⟨w.heap.size,0,none⟩),.pointer (some ⟨w.heap.size+1,0,none⟩)]) (by simp) (by simp [go_sem]) ?_
    refine (catch_idle _ _ _).mono ?_
    rintro y u' w'' ⟨rfl,rfl,rfl⟩
    have d0:w''.cell? ⟨w.heap.size,0,none⟩=some (.slice A pre.length c1):=by simp [World.cell?,hLW]
    obtain ⟨g0,g1,-,-⟩:=hFW.cells
    refine ⟨.tuple #[.slice A pre.length c1,.agg #[.int .i64 0,.int .i64 0]],by simp [results,Tryz.f28,go_sem,d0,g0,g1],?_⟩
    rw [ho.out]
    refine ⟨hBW,_,rfl,?_⟩
    obtain ⟨A',c',ms,e1,e2,e3⟩:=hOW.rows
    exact ⟨A',c',ms,e1,e2.mono fun _ _ r=>r.step (by omega) (.inl rfl) (fun _ _ _ _=>rfl),e3.imp id fun ⟨g,cur,k1,k2,k3⟩=>⟨g,cur,k1,by omega,k3⟩⟩
  · cases f1 with
    | zero=>
     have:ts1=[]:=List.eq_nil_of_length_eq_zero (by omega)
     subst this
     exact absurd rfl h0
    | succ f2=>
     have hd0:(nxt ts1 != 0)=true:=by simpa using h0
     have HD:Hid (nxt ts1≠0):=h0
     clear h0
     go_wp2_with fail
     refine (next_any _ (w.heap.size+1+1) G ts1 e HH.out.1).mono ?_
     rintro x w2 ⟨rfl,hb2⟩
     have hl2:w.heap.size+1+1<wr.heap.size:=HH.out.1.lt.1
     have hL2:w2.heap[w.heap.size]? = some (.cells #[.slice A pre.length c1] 29 (0,0)):=(hb2.block _ (by omega)).trans HH.out.2.1
     have hF2:FB w2 (w.heap.size+1) 0 0:=HH.out.2.2.1.below hb2 (by omega)
     have HX:Hid (OwnL w2 (w.heap.size+1+1+1) (.slice A pre.length c1) pre∧Below w.heap.size w w2∧w2.heap[w.heap.size]? = some (.cells #[.slice A pre.length c1] 29 (0,0))∧FB w2 (w.heap.size+1) 0 0∧RdX w2 (w.heap.size+1+1) G ts1 e):=⟨HH.out.2.2.2.1.step (fun k h1 _=>hb2.block k h1),HH.out.2.2.2.2.trans (hb2.mono (by omega)),hL2,hF2,HH.out.1.below hb2 (Nat.le_refl _)⟩
     have hlR:=HH.out.1.left
     have HLR:Hid (leftOf (w.heap.size+1+1) wr=ts1.length+1):=hlR
     have p0:w2.cell? ⟨w.heap.size,0,none⟩=some (.slice A pre.length c1):=by simp [World.cell?,hL2]
     clear hL2 hF2 HH hb2 hlR
     cases hS:lineT e ts1 with
     | no ea ec=>
      have ho:Hid (linesT e ts.length ts = .no ea ec):=by
       show _=_
       rw [HT.out]
       simp [linesT,HD.out,hS,Res.bind]
      have HS:Hid (lineT e ts1 = .no ea ec):=hS
      clear HT hS
      have hdone:∀ (W:World),Mv w2 W (w.heap.size+1+1) none→∀ x0 x1 x4 x5 x6 x7 x8 x9 x10 x11 x12 x13 x14 x15:Value,bodyPostD Tryz.prog Tryz.f28 (LinesOut w (linesT e ts.length ts)) (Exit.panic [{ v := .iface 32 (.agg #[.int .i64 ea,.int .i64 ec]),recovered:=false }]) { tmps:=#[x0,x1,.pointer (some ⟨w.heap.size,0,none⟩),.pointer (some ⟨w.heap.size+1,0,none⟩),x4,x5,x6,x7,x8,x9,x10,x11,x12,x13,x14,x15],defers:=[{ target := .fn (.func 52) #[.pointer (some ⟨w.heap.size,0,none⟩),.pointer (some ⟨w.heap.size+1,0,none⟩)],args:=#[] }] } W:=by
       intro W hm x0 x1 x4 x5 x6 x7 x8 x9 x10 x11 x12 x13 x14 x15
       have hz:=HX.out.2.2.2.2.lt.1
       have hLW:=(hm.block w.heap.size (by omega) (by omega) (by simp)).trans HX.out.2.2.1
       have hFW:FB W (w.heap.size+1) 0 0:=(hm.block (w.heap.size+1) (by omega) (by omega) (by simp)).trans HX.out.2.2.2.1
       refine leaves_cons (f:=52) (args:=#[.pointer (some ⟨w.heap.size,0,none⟩),.pointer (some ⟨w.heap.size+1,0,none⟩)]) (by simp) (by simp [go_sem]) ?_
       refine (catch_thrown _ _ _ _ _ ea ec _ hLW hFW (by omega)).mono ?_
       rintro y u' w'' ⟨rfl,rfl,k1,k2,k3⟩
       have d0:w''.cell? ⟨w.heap.size,0,none⟩=some (.slice none 0 0):=by simp [World.cell?,k1]
       obtain ⟨g0,g1,-,-⟩:=k2.cells
       refine ⟨.tuple #[.slice none 0 0,.agg #[.int .i64 ea,.int .i64 ec]],by simp [results,Tryz.f28,go_sem,d0,g0,g1],?_⟩
       rw [ho.out]
       refine ⟨?_,rfl⟩
       have hW:=hm.below (n:=w.heap.size) (by omega) (by omega) (fun g e=>by cases e)
       exact (HX.out.2.1.trans hW).trans (k3.below (by have:=hm.size;omega) (Nat.le_refl _) (fun g e=>by have:=Option.some.inj e;omega))
      go_wp2_with fail
      go_region_dies
      all_goals
       refine (line_any e (w.heap.size+1+1) G ts1 _ HX.out.2.2.2.2.drew).mono ?_
       rintro y w3 ⟨hm3,hx⟩
       rw [HS.out] at hx
       simp only at hx
       subst hx
       exact hdone w3 hm3.drew _ _ _ _ _ _ _ _ _ _ _ _ _ _
     | ok l r=>
      have ho:Hid (linesT e ts.length ts=match linesT e f2 r with | .ok ls r => .ok ((pre++[l])++ls) r | .no a c => .no a c):=by
       show _=_
       rw [HT.out]
       simp only [linesT,HD.out,hS,Res.bind,if_false]
       cases linesT e f2 r <;> simp
      have hlen:=line_le hS
      have HS:Hid (lineT e ts1 = .ok l r):=hS
      clear HT hS
      have hz:=HX.out.2.2.2.2.lt.1
      have p1:w2.frozen? ⟨w.heap.size,0,none⟩=false:=by simp [World.frozen?,HX.out.2.2.1]
      go_wp2_with fail
      refine wp_region_any (by kernel_rfl) ?_
      change wpAny _ _ _ _ _ _ _ (World.drew _)
      refine wpAny_ready (rs:=[0,1]) (by kernel_rfl) (by simp) ?_
      refine AllReady.cons rfl (fun K hK => ?_) (AllReady.cons rfl (fun K hK => ?_) AllReady.nil)
      · go_simp
        refine hK _ _ ?_
        clear hK K
        refine wpAny_ready (rs:=[1]) (by kernel_rfl) (by simp) ?_
        refine AllReady.cons rfl (fun K hK => ?_) AllReady.nil
        go_simp
        refine (line_any e (w.heap.size+1+1) G ts1 _ HX.out.2.2.2.2.drew).mono ?_
        rintro y w3 ⟨hm3,hx⟩
        rw [HS.out] at hx
        obtain ⟨v,rfl,hR3,m,rfl,hL3⟩:=hx
        replace hm3:=hm3.drew
        have hb0:=hm3.block w.heap.size (by omega) (by omega) (by simp)
        have d0:w3.cell? ⟨w.heap.size,0,none⟩=some (.slice A pre.length c1):=(World.cell?_of_block hb0).trans p0
        have d1:∀ o,(w3.alloc o).cell? ⟨w.heap.size,0,none⟩=some (.slice A pre.length c1):=fun o=>(World.cell?_of_block (Below.heap_alloc _ _ _ (by have:=hm3.size;show w.heap.size<_;omega))).trans d0
        have HM3:Hid (Mv w2 w3 (w.heap.size+1+1) none∧RdX w3 (w.heap.size+1+1) G r e∧LR 3 w3 w2.heap.size none m l):=⟨hm3,hR3,hL3⟩
        clear hm3 hR3 hL3 hb0
        refine hK _ _ ?_
        clear hK K
        refine wpAny_ready (rs:=[2]) (by kernel_rfl) (by simp) ?_
        refine AllReady.cons rfl (fun K hK => ?_) AllReady.nil
        go_simp
        refine hK _ _ ?_
        clear hK K
        refine wpAny_ready (rs:=[3]) (by kernel_rfl) (by simp) ?_
        refine AllReady.cons rfl (fun K hK => ?_) AllReady.nil
        have hOW:OwnL (w3.alloc (.cells (ml1 m).toArray 44)) (w.heap.size+1+1+1) (.slice A pre.length c1) pre:=(HX.out.1.step (fun k h1 h2=>HM3.out.1.block k h1 (by omega) (by simp))).step (fun k h1 _=>Below.heap_alloc _ _ _ h1)
        have hLW:LR 3 (w3.alloc (.cells (ml1 m).toArray 44)) (w.heap.size+1+1+1) (Value.slice A pre.length c1).ownBlock m l:=HM3.out.2.2.step (by omega) (.inr (.inr fun g e => .inr (HX.out.1.lt g e).2)) (fun k h1 _ _=>Below.heap_alloc _ _ _ h1)
        refine step_L rfl _ _ 29 rfl Tryz.underlying29 (w.heap.size+1+1+1) _ pre rfl hOW w3.heap.size 1 m l rfl (World.alloc_heap_new _ _) hLW (by omega) (by have:=HM3.out.1.size;simp;omega) ?_
        intro A4 c4 w4 hO5 hgr
        refine hK _ _ ?_
        clear hK K
        have hown:=HX.out.1.lt
        have hzz:=HM3.out.1.size
        have hb4:=hgr.block w.heap.size (by simp;omega) (fun e=>by have:=(hown _ e.symm).1;omega)
        have hL4:w4.heap[w.heap.size]? = some (.cells #[.slice A pre.length c1] 29 (0,0)):=hb4.trans ((Below.heap_alloc _ _ _ (by omega)).trans ((HM3.out.1.block w.heap.size (by omega) (by omega) (by simp)).trans HX.out.2.2.1))
        have hF4:FB w4 (w.heap.size+1) 0 0:=(hgr.block (w.heap.size+1) (by simp;omega) (fun e=>by have:=(hown _ e.symm).1;omega)).trans ((Below.heap_alloc _ _ _ (by omega)).trans ((HM3.out.1.block (w.heap.size+1) (by omega) (by omega) (by simp)).trans HX.out.2.2.2.1))
        have hR4:RdX w4 (w.heap.size+1+1) G r e:=(HM3.out.2.1.alloc _).grown hgr (fun e=>by have:=(hown _ e.symm).1;omega) (fun e=>by have:=(hown _ e.symm).1;omega)
        have hB4:Below w.heap.size w w4:=((HX.out.2.1.trans (HM3.out.1.below (n:=w.heap.size) (by omega) (by omega) (fun g e=>by cases e))).alloc (by omega) _).grown hgr (by simp;omega) (fun k e=>by have:=(hown k e).1;omega)
        have e0:w4.cell? ⟨w.heap.size,0,none⟩=some (.slice A pre.length c1):=by simp [World.cell?,hL4]
        have e1:w4.frozen? ⟨w.heap.size,0,none⟩=false:=by simp [World.frozen?,hL4]
        have HZ:Hid (w4.heap[w.heap.size]? = some (.cells #[.slice A pre.length c1] 29 (0,0))∧FB w4 (w.heap.size+1) 0 0∧RdX w4 (w.heap.size+1+1) G r e∧Below w.heap.size w w4∧OwnL w4 (w.heap.size+1+1+1) (.slice A4 (pre.length+1) c4) (pre++[l])):=⟨hL4,hF4,hR4,hB4,hO5⟩
        clear hL4 hF4 hR4 hB4 hO5 hb4 hgr hOW hLW d0 d1 p0 p1
        refine wpAny_ready (rs:=[4]) (by kernel_rfl) (by simp) ?_
        refine AllReady.cons rfl (fun K hK => ?_) AllReady.nil
        go_simp
        refine hK _ _ ?_
        clear hK K
        refine wpAny_done (by kernel_rfl) ?_ _
        go_wp2
        refine ⟨⟨f2,r,pre++[l],A4,c4,by omega,HZ.out.2.2.1.set (by omega) (by omega) _ _,?_,?_,?_,?_,?_,ho.out⟩,?_⟩
        · rw [List.length_append]
          exact cells_setS HZ.out.1
        · exact (heap_set_other _ (by omega) _ _).trans HZ.out.2.1
        · rw [List.length_append]
          exact HZ.out.2.2.2.2.step (fun k h1 h2=>heap_set_other _ (by omega) _ _)
        · exact HZ.out.2.2.2.1.setCell (p:=⟨w.heap.size,0,none⟩) (Nat.le_refl _) _
        · rw [List.length_append]
          simp only [List.length_cons,List.length_nil]
          omega
        · rw [HLR.out,(HZ.out.2.2.1.set (B:=w.heap.size) (by omega) (by omega) 0 (.slice A4 (pre.length+1) c4)).left]
          omega
      · go_simp
        refine (line_any e (w.heap.size+1+1) G ts1 _ HX.out.2.2.2.2.drew).mono ?_
        rintro y w3 ⟨hm3,hx⟩
        rw [HS.out] at hx
        obtain ⟨v,rfl,hR3,m,rfl,hL3⟩:=hx
        replace hm3:=hm3.drew
        have hb0:=hm3.block w.heap.size (by omega) (by omega) (by simp)
        have d0:w3.cell? ⟨w.heap.size,0,none⟩=some (.slice A pre.length c1):=(World.cell?_of_block hb0).trans p0
        have d1:∀ o,(w3.alloc o).cell? ⟨w.heap.size,0,none⟩=some (.slice A pre.length c1):=fun o=>(World.cell?_of_block (Below.heap_alloc _ _ _ (by have:=hm3.size;show w.heap.size<_;omega))).trans d0
        have HM3:Hid (Mv w2 w3 (w.heap.size+1+1) none∧RdX w3 (w.heap.size+1+1) G r e∧LR 3 w3 w2.heap.size none m l):=⟨hm3,hR3,hL3⟩
        clear hm3 hR3 hL3 hb0
        refine hK _ _ ?_
        clear hK K
        refine wpAny_ready (rs:=[0,2]) (by kernel_rfl) (by simp) ?_
        refine AllReady.cons rfl (fun K hK => ?_) (AllReady.cons rfl (fun K hK => ?_) AllReady.nil)
        · go_simp
          refine hK _ _ ?_
          clear hK K
          refine wpAny_ready (rs:=[2]) (by kernel_rfl) (by simp) ?_
          refine AllReady.cons rfl (fun K hK => ?_) AllReady.nil
          go_simp
          refine hK _ _ ?_
          clear hK K
          refine wpAny_ready (rs:=[3]) (by kernel_rfl) (by simp) ?_
          refine AllReady.cons rfl (fun K hK => ?_) AllReady.nil
          have hOW:OwnL (w3.alloc (.cells (ml1 m).toArray 44)) (w.heap.size+1+1+1) (.slice A pre.length c1) pre:=(HX.out.1.step (fun k h1 h2=>HM3.out.1.block k h1 (by omega) (by simp))).step (fun k h1 _=>Below.heap_alloc _ _ _ h1)
          have hLW:LR 3 (w3.alloc (.cells (ml1 m).toArray 44)) (w.heap.size+1+1+1) (Value.slice A pre.length c1).ownBlock m l:=HM3.out.2.2.step (by omega) (.inr (.inr fun g e => .inr (HX.out.1.lt g e).2)) (fun k h1 _ _=>Below.heap_alloc _ _ _ h1)
          refine step_L rfl _ _ 29 rfl Tryz.underlying29 (w.heap.size+1+1+1) _ pre rfl hOW w3.heap.size 1 m l rfl (World.alloc_heap_new _ _) hLW (by omega) (by have:=HM3.out.1.size;simp;omega) ?_
          intro A4 c4 w4 hO5 hgr
          refine hK _ _ ?_
          clear hK K
          have hown:=HX.out.1.lt
          have hzz:=HM3.out.1.size
          have hb4:=hgr.block w.heap.size (by simp;omega) (fun e=>by have:=(hown _ e.symm).1;omega)
          have hL4:w4.heap[w.heap.size]? = some (.cells #[.slice A pre.length c1] 29 (0,0)):=hb4.trans ((Below.heap_alloc _ _ _ (by omega)).trans ((HM3.out.1.block w.heap.size (by omega) (by omega) (by simp)).trans HX.out.2.2.1))
          have hF4:FB w4 (w.heap.size+1) 0 0:=(hgr.block (w.heap.size+1) (by simp;omega) (fun e=>by have:=(hown _ e.symm).1;omega)).trans ((Below.heap_alloc _ _ _ (by omega)).trans ((HM3.out.1.block (w.heap.size+1) (by omega) (by omega) (by simp)).trans HX.out.2.2.2.1))
          have hR4:RdX w4 (w.heap.size+1+1) G r e:=(HM3.out.2.1.alloc _).grown hgr (fun e=>by have:=(hown _ e.symm).1;omega) (fun e=>by have:=(hown _ e.symm).1;omega)
          have hB4:Below w.heap.size w w4:=((HX.out.2.1.trans (HM3.out.1.below (n:=w.heap.size) (by omega) (by omega) (fun g e=>by cases e))).alloc (by omega) _).grown hgr (by simp;omega) (fun k e=>by have:=(hown k e).1;omega)
          have e0:w4.cell? ⟨w.heap.size,0,none⟩=some (.slice A pre.length c1):=by simp [World.cell?,hL4]
          have e1:w4.frozen? ⟨w.heap.size,0,none⟩=false:=by simp [World.frozen?,hL4]
          have HZ:Hid (w4.heap[w.heap.size]? = some (.cells #[.slice A pre.length c1] 29 (0,0))∧FB w4 (w.heap.size+1) 0 0∧RdX w4 (w.heap.size+1+1) G r e∧Below w.heap.size w w4∧OwnL w4 (w.heap.size+1+1+1) (.slice A4 (pre.length+1) c4) (pre++[l])):=⟨hL4,hF4,hR4,hB4,hO5⟩
          clear hL4 hF4 hR4 hB4 hO5 hb4 hgr hOW hLW d0 d1 p0 p1
          refine wpAny_ready (rs:=[4]) (by kernel_rfl) (by simp) ?_
          refine AllReady.cons rfl (fun K hK => ?_) AllReady.nil
          go_simp
          refine hK _ _ ?_
          clear hK K
          refine wpAny_done (by kernel_rfl) ?_ _
          go_wp2
          refine ⟨⟨f2,r,pre++[l],A4,c4,by omega,HZ.out.2.2.1.set (by omega) (by omega) _ _,?_,?_,?_,?_,?_,ho.out⟩,?_⟩
          · rw [List.length_append]
            exact cells_setS HZ.out.1
          · exact (heap_set_other _ (by omega) _ _).trans HZ.out.2.1
          · rw [List.length_append]
            exact HZ.out.2.2.2.2.step (fun k h1 h2=>heap_set_other _ (by omega) _ _)
          · exact HZ.out.2.2.2.1.setCell (p:=⟨w.heap.size,0,none⟩) (Nat.le_refl _) _
          · rw [List.length_append]
            simp only [List.length_cons,List.length_nil]
            omega
          · rw [HLR.out,(HZ.out.2.2.1.set (B:=w.heap.size) (by omega) (by omega) 0 (.slice A4 (pre.length+1) c4)).left]
            omega
        · go_simp
          refine hK _ _ ?_
          clear hK K
          refine wpAny_ready (rs:=[0]) (by kernel_rfl) (by simp) ?_
          refine AllReady.cons rfl (fun K hK => ?_) AllReady.nil
          go_simp
          refine hK _ _ ?_
          clear hK K
          refine wpAny_ready (rs:=[3]) (by kernel_rfl) (by simp) ?_
          refine AllReady.cons rfl (fun K hK => ?_) AllReady.nil
          have hOW:OwnL (w3.alloc (.cells (ml1 m).toArray 44)) (w.heap.size+1+1+1) (.slice A pre.length c1) pre:=(HX.out.1.step (fun k h1 h2=>HM3.out.1.block k h1 (by omega) (by simp))).step (fun k h1 _=>Below.heap_alloc _ _ _ h1)
          have hLW:LR 3 (w3.alloc (.cells (ml1 m).toArray 44)) (w.heap.size+1+1+1) (Value.slice A pre.length c1).ownBlock m l:=HM3.out.2.2.step (by omega) (.inr (.inr fun g e => .inr (HX.out.1.lt g e).2)) (fun k h1 _ _=>Below.heap_alloc _ _ _ h1)
          refine step_L rfl _ _ 29 rfl Tryz.underlying29 (w.heap.size+1+1+1) _ pre rfl hOW w3.heap.size 1 m l rfl (World.alloc_heap_new _ _) hLW (by omega) (by have:=HM3.out.1.size;simp;omega) ?_
          intro A4 c4 w4 hO5 hgr
          refine hK _ _ ?_
          clear hK K
          have hown:=HX.out.1.lt
          have hzz:=HM3.out.1.size
          have hb4:=hgr.block w.heap.size (by simp;omega) (fun e=>by have:=(hown _ e.symm).1;omega)
          have hL4:w4.heap[w.heap.size]? = some (.cells #[.slice A pre.length c1] 29 (0,0)):=hb4.trans ((Below.heap_alloc _ _ _ (by omega)).trans ((HM3.out.1.block w.heap.size (by omega) (by omega) (by simp)).trans HX.out.2.2.1))
          have hF4:FB w4 (w.heap.size+1) 0 0:=(hgr.block (w.heap.size+1) (by simp;omega) (fun e=>by have:=(hown _ e.symm).1;omega)).trans ((Below.heap_alloc _ _ _ (by omega)).trans ((HM3.out.1.block (w.heap.size+1) (by omega) (by omega) (by simp)).trans HX.out.2.2.2.1))
          have hR4:RdX w4 (w.heap.size+1+1) G r e:=(HM3.out.2.1.alloc _).grown hgr (fun e=>by have:=(hown _ e.symm).1;omega) (fun e=>by have:=(hown _ e.symm).1;omega)
          have hB4:Below w.heap.size w w4:=((HX.out.2.1.trans (HM3.out.1.below (n:=w.heap.size) (by omega) (by omega) (fun g e=>by cases e))).alloc (by omega) _).grown hgr (by simp;omega) (fun k e=>by have:=(hown k e).1;omega)
          have e0:w4.cell? ⟨w.heap.size,0,none⟩=some (.slice A pre.length c1):=by simp [World.cell?,hL4]
          have e1:w4.frozen? ⟨w.heap.size,0,none⟩=false:=by simp [World.frozen?,hL4]
          have HZ:Hid (w4.heap[w.heap.size]? = some (.cells #[.slice A pre.length c1] 29 (0,0))∧FB w4 (w.heap.size+1) 0 0∧RdX w4 (w.heap.size+1+1) G r e∧Below w.heap.size w w4∧OwnL w4 (w.heap.size+1+1+1) (.slice A4 (pre.length+1) c4) (pre++[l])):=⟨hL4,hF4,hR4,hB4,hO5⟩
          clear hL4 hF4 hR4 hB4 hO5 hb4 hgr hOW hLW d0 d1 p0 p1
          refine wpAny_ready (rs:=[4]) (by kernel_rfl) (by simp) ?_
          refine AllReady.cons rfl (fun K hK => ?_) AllReady.nil
          go_simp
          refine hK _ _ ?_
          clear hK K
          refine wpAny_done (by kernel_rfl) ?_ _
          go_wp2
          refine ⟨⟨f2,r,pre++[l],A4,c4,by omega,HZ.out.2.2.1.set (by omega) (by omega) _ _,?_,?_,?_,?_,?_,ho.out⟩,?_⟩
          · rw [List.length_append]
            exact cells_setS HZ.out.1
          · exact (heap_set_other _ (by omega) _ _).trans HZ.out.2.1
          · rw [List.length_append]
            exact HZ.out.2.2.2.2.step (fun k h1 h2=>heap_set_other _ (by omega) _ _)
          · exact HZ.out.2.2.2.1.setCell (p:=⟨w.heap.size,0,none⟩) (Nat.le_refl _) _
          · rw [List.length_append]
            simp only [List.length_cons,List.length_nil]
            omega
          · rw [HLR.out,(HZ.out.2.2.1.set (B:=w.heap.size) (by omega) (by omega) 0 (.slice A4 (pre.length+1) c4)).left]
            omega
end Go.Proofs
