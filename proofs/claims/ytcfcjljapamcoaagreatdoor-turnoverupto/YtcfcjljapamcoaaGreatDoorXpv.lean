/-
  A row of ranges written over (spoilSet 20), and what is read of it then (marked 21).
-/
import Derived.Test.YtcfcjljapamcoaaGreatDoorXov
import Derived.Test.YtcfcjljapamcoaaGreatDoorMglv
import Derived.Deep.DeepAppendRoom
namespace Go.Proofs
open Go.RowKit Go.Shelf
set_option maxRecDepth 100000
attribute [local go_sem] Oper.semAt_some
def mkR (n:Nat) (k:Int):List (Int × Int):=List.replicate n (-k,k)
theorem mkR_at {n:Nat} {k:Int} {j:Nat} (h:j<n):rg (mkR n k) j=(-k,k):=by
 rw [rg_lt (by simpa [mkR] using h)]
 simp [mkR]
set_option maxHeartbeats 4000000 in
theorem marked_any (v:Value) (n:Nat) (k:Int) (w:World) (h:Rs w v (mkR n k)) (hk:0≤k∧k≤1000) (hn:n≤1000000):Calls Tryz.prog 21 #[v,.int .i64 k] w fun e w'=>e = .returned (.bool true)∧w'=w:=by
 have hln:(mkR n k).length=n:=by simp [mkR]
 obtain ⟨a,c,rfl,hc,hr⟩:=h
 rw [hln] at hc ⊢
 obtain ⟨k0,k1⟩:=hk
 have hkw:IntKind.i64.wrap (-k) = -k:=IntWalk.i64_in _ ⟨by omega,by omega⟩
 have HR:Hid (mkR n k=[]∨∃ g o,a=some ⟨g,o,none⟩∧Reads w g o (mkR n k)):=hr
 clear hr
 go_enter Tryz.func21,Tryz.ntmps21
 go_wp2
 go_loop [5] (fun vi=>∃ j:Nat,vi = .int .i64 j∧j≤n) (fun vi=>n - (intOf vi).toNat)
 case atStart=>exact ⟨0,rfl,by omega⟩
 case round=>
  obtain ⟨j,rfl,hj⟩:=hrel
  by_cases hlt:j<n
  · have hlt':(j:Int)<(n:Int):=by omega
    have hpos:(0:Int)≤(j:Int):=by omega
    obtain ⟨g,o,rfl,hR⟩:=HR.out.resolve_left (fun e=>by have:=congrArg List.length e;rw [hln] at this;simp at this;omega)
    obtain ⟨c1,c2⟩:=hR j (by rw [hln];exact hlt)
    rw [mkR_at hlt] at c1 c2
    simp only at c1 c2
    go_wp2
    exact ⟨⟨j+1,by go_num,by omega⟩,by simp [intOf];omega⟩
  · have hge:¬ (j:Int)<(n:Int):=by omega
    go_wp2
    go_ret
    exact ⟨rfl,rfl⟩
theorem app_keep (w:World) (ty:TypeId) (base:Nat) (v:Value) (n:Nat) (xs:List Value) (hown:w.ownsRow base 67 2 v n xs) (ad:Addr) (c:Nat) (p q:Int) (hp:w.cell? (ad.add 0)=some (.int .i64 p)) (hq:w.cell? (ad.add 1)=some (.int .i64 q)) (hn:n≤8000000) (hbase:base≤w.heap.size) :
 ∃ v' w',(Builtin.append_ #[40,40] ty #[v,.slice (some ad) 1 c]).run Tryz.prog w = .ok v' w'∧w'.ownsRow base 67 2 v' (n+1) (xs++[.int .i64 p,.int .i64 q])∧((w.grownBy w' none∧v'.ownBlock=some w.heap.size)∨(w.grownBy w' v.ownBlock∧v'.ownBlock=v.ownBlock)):=by
 obtain ⟨i0,hi,hz0,hz1,hz2⟩:=info_parts info38
 have hnews:∀ (j:Nat) u,([.int .i64 p,.int .i64 q]:List Value)[j]? = some u→w.cell? (ad.add j)=some u:=fun j u hj=>by
  match j,hj with
  | 0,hj=>simp at hj;subst hj;exact hp
  | 1,hj=>simp at hj;subst hj;exact hq
 have h1:∀ u∈([.int .i64 p,.int .i64 q]:List Value),u.oneCell'=true:=fun u hu=>by
  simp at hu
  rcases hu with rfl | rfl <;> rfl
 rcases hown.2 with ⟨rfl,rfl⟩ | ⟨g,cap,cur,rfl,hbg,hg,hnc,hcm,hcs,htake⟩
 · obtain ⟨g,cap,w',hr,h2,h3,h4,_⟩:=run_append_lies (P:=Tryz.prog) w 40 ty base 67 i0 (.agg #[.int .i64 0,.int .i64 0]) 2 16 Tryz.underlying40 hi hz0 hz1 hz2 rfl (by decide) (.slice none 0 0) 0 xs hown ad 1 c [.int .i64 p,.int .i64 q] rfl hnews h1 (by omega) (by unfold maxLen;omega) (by omega) hbase _ rfl
   refine ⟨_,w',hr,h2,.inl ⟨h3,?_⟩⟩
   rcases h4 with h4 | h4
   · cases h4
   · rw [h4];rfl
 · by_cases hroom:n+1≤cap
   · obtain ⟨w',hr,h2,h3⟩:=run_append_own_spare (P:=Tryz.prog) w base 40 ty 67 i0 2 Tryz.underlying40 hi hz1 g n cap xs hown ad 1 c [.int .i64 p,.int .i64 q] rfl hnews h1 hroom
     exact ⟨_,w',hr,h2,.inr ⟨h3,rfl⟩⟩
   · obtain ⟨g',cap',w',hr,h2,_,_,_⟩:=run_append_lies (P:=Tryz.prog) w 40 ty base 67 i0 (.agg #[.int .i64 0,.int .i64 0]) 2 16 Tryz.underlying40 hi hz0 hz1 hz2 rfl (by decide) (.slice (some ⟨g,0,none⟩) n cap) n xs hown ad 1 c [.int .i64 p,.int .i64 q] rfl hnews h1 (by omega) (by unfold maxLen;omega) (by omega) hbase _ rfl
     have hg2:=run_append_grow (P:=Tryz.prog) w 40 ty 67 i0 _ Tryz.underlying40 hi hz0 ⟨g,0,none⟩ n cap xs (by rw [hz1];exact hown.1) (hown.cells (g:=g) rfl) ad 1 c [.int .i64 p,.int .i64 q] (by rw [hz1];rfl) hnews (by omega) (by omega) (growslice_fits (by omega) (by rw [hz2];omega))
     have e:=hr.symm.trans hg2
     injection e with e1 e2
     refine ⟨_,w',hr,h2,.inl ⟨?_,by rw [e1];rfl⟩⟩
     rw [e2]
     exact ⟨rfl,rfl,rfl,by simp,fun k hk _=>World.grownBy_alloc w.drew _ none |>.block k hk (by simp)⟩
structure SpI (w wr:World) (v x:Value) (n m:Nat) (k:Int):Prop where
 fr:Fr w wr fun b=>v.ownBlock=some b
 rs:Rs wr v (mkR n k)
 own:∃ xs,wr.ownsRow 0 67 2 x m xs∧n≤m∧((x.ownBlock=v.ownBlock∧xs.take (n*2)=fl (mkR n k))∨∀ b,x.ownBlock=some b→w.heap.size≤b)
theorem mkR_len (n:Nat) (k:Int):(mkR n k).length=n:=by simp [mkR]
theorem Rs.of_cells {w:World} {g n c:Nat} {k:Int} (hc:n≤c) (h:∀ j u,(fl (mkR n k))[j]? = some u→w.cell? ⟨g,j,none⟩=some u):Rs w (.slice (some ⟨g,0,none⟩) n c) (mkR n k):=by
 refine ⟨_,c,by rw [mkR_len],by rw [mkR_len];exact hc,.inr ⟨g,0,rfl,fun j hj => ?_⟩⟩
 have:=fl_at (mkR n k) hj
 rw [Nat.zero_add]
 exact ⟨h _ _ this.1,h _ _ this.2⟩
theorem SpI.more {w wr W w':World} {v x x':Value} {n m:Nat} {k p q:Int} (h:SpI w wr v x n m k) (hv:∀ b,v.ownBlock=some b→b<w.heap.size) (hv0:(v = .slice none 0 0∧n=0)∨∃ g c,v = .slice (some ⟨g,0,none⟩) n c∧n≤c) (hg:Grown wr W) (h2:∀ xs,W.ownsRow 0 67 2 x m xs→w'.ownsRow 0 67 2 x' (m+1) (xs++[.int .i64 p,.int .i64 q])) (h3:(W.grownBy w' none∧x'.ownBlock=some W.heap.size)∨(W.grownBy w' x.ownBlock∧x'.ownBlock=x.ownBlock)):SpI w w' v x' n (m+1) k:=by
 obtain ⟨xs,ho,hnm,hx⟩:=h.own
 have hoW:W.ownsRow 0 67 2 x m xs:=by
  refine ⟨ho.1,ho.2.imp id ?_⟩
  rintro ⟨g,cap,cur,e,h1,h2,h3⟩
  exact ⟨g,cap,cur,e,h1,(hg.below.block g (blk_lt h2)).trans h2,h3⟩
 have hfW:Fr w W fun b=>v.ownBlock=some b:=h.fr.trans (fr_below hg.below (Nat.le_refl _) fun _=>False) fun _ _ e=>e.elim
 have hrW:Rs W v (mkR n k):=h.rs.below hg.below (Nat.le_refl _)
 have ho':=h2 xs hoW
 have hsz:=hfW.size
 rcases h3 with ⟨h3,h4⟩ | ⟨h3,h4⟩
 · have hb:Below W.heap.size W w':=⟨h3.os,h3.tape,h3.output,h3.size,fun b hb=>h3.block b hb (by simp)⟩
   exact ⟨hfW.trans (fr_below hb (Nat.le_refl _) fun _=>False) fun _ _ e=>e.elim,hrW.below hb (Nat.le_refl _),_,ho',by omega,.inr fun b e=>by rw [h4] at e;injection e with e;omega⟩
 · rcases hx with ⟨hx,ht⟩ | hx
   · have htk:(xs++[Value.int .i64 p,Value.int .i64 q]).take (n*2)=fl (mkR n k):=by
      rw [List.take_append_of_le_length (by rw [ho.1];omega)]
      exact ht
     refine ⟨⟨h3.os.trans hfW.os,h3.tape.trans hfW.tape,h3.output.trans hfW.output,Nat.le_trans hsz h3.size,fun b hb hn=>(h3.block b (by omega) fun e=>hn (by rw [←hx,←e])).trans (hfW.block b hb hn)⟩,?_,_,ho',by omega,.inl ⟨h4.trans hx,htk⟩⟩
     rcases hv0 with ⟨rfl,rfl⟩ | ⟨g,c,rfl,hc⟩
     · exact ⟨none,0,rfl,Nat.le_refl _,.inl rfl⟩
     · refine Rs.of_cells hc fun j u hj => ?_
       rw [←htk,List.getElem?_take] at hj
       have hj:(xs++[Value.int .i64 p,Value.int .i64 q])[j]? = some u:=by
        split at hj
        · exact hj
        · cases hj
       have:=World.ownsRow.cells ho' (g:=g) (h4.trans hx) j u hj
       rw [add_zero_at] at this
       exact this
   · have hf3:Fr W w' fun b=>x.ownBlock=some b:=⟨h3.os,h3.tape,h3.output,h3.size,fun b hb hn=>h3.block b hb fun e=>hn e.symm⟩
     refine ⟨⟨h3.os.trans hfW.os,h3.tape.trans hfW.tape,h3.output.trans hfW.output,Nat.le_trans hsz h3.size,fun b hb hn=>(h3.block b (by omega) fun e=>by have:=hx b e.symm;omega).trans (hfW.block b hb hn)⟩,?_,_,ho',by omega,.inr fun b e=>hx b (by rw [←h4];exact e)⟩
     exact hrW.fr hf3 fun b hb e=>by have h5:=hx b e;have h6:=hv b hb;omega
theorem app_K2 {ops:Array Oper} {rest:List Oper} {o:Oper} {a:Act} {Q:Exit→Act→World→Prop} {w:World} (hgd:o.guard=none) (s x:Operand)
 (ho:o.op = .call { callee := .builtin .append,args:=#[s,x],argTypes:=#[40,40] })
 (v:Value) (n:Nat) (hs:a.eval s=v) (hown:∃ xs,w.ownsRow 0 67 2 v n xs) (ad:Addr) (c:Nat) (hx:a.eval x = .slice (some ad) 1 c) (p q:Int) (hp:w.cell? (ad.add 0)=some (.int .i64 p)) (hq:w.cell? (ad.add 1)=some (.int .i64 q)) (hn:n≤8000000)
 (h:∀ v' w',(∀ xs,w.ownsRow 0 67 2 v n xs→w'.ownsRow 0 67 2 v' (n+1) (xs++[.int .i64 p,.int .i64 q]))→((w.grownBy w' none∧v'.ownBlock=some w.heap.size)∨(w.grownBy w' v.ownBlock∧v'.ownBlock=v.ownBlock))→wpList Tryz.prog ops Q rest (a.put o.dst v') w'):wpList Tryz.prog ops Q (o::rest) a w:=by
 refine wpList_plain hgd fun K hK => ?_
 obtain ⟨xs,hxs⟩:=hown
 obtain ⟨v',w',hr,_,h3⟩:=app_keep w o.type 0 v n xs hxs ad c p q hp hq hn (Nat.zero_le _)
 unfold Oper.wp execOp
 simp only [ho,resolve,invoke,builtin,Sem.run_bind,Sem.run_pure,Result.andThen_ok,List.map_toArray,List.map_cons,List.map_nil,hs,hx,hr]
 refine hK _ _ (h v' w' (fun xs' hx' => ?_) h3)
 obtain ⟨v2,w2,hr2,h4,_⟩:=app_keep w o.type 0 v n xs' hx' ad c p q hp hq hn (Nat.zero_le _)
 have e:=hr.symm.trans hr2
 injection e with e1 e2
 rw [e1,e2]
 exact h4
theorem xs_marks {xs:List Value} {n:Nat} {k:Int} (hl:xs.length=n*2) (h:∀ i,i<n→xs[i*2]? = some (.int .i64 (-k))∧xs[i*2+1]? = some (.int .i64 k)):xs=fl (mkR n k):=by
 refine List.ext_getElem? fun j => ?_
 by_cases hj:j<n*2
 · obtain ⟨i,hi⟩:∃ i,j=i*2∨j=i*2+1:=⟨j / 2,by omega⟩
   have hin:i<n:=by omega
   have h1:=h i hin
   have h2:=fl_at (mkR n k) (j:=i) (by rw [mkR_len];exact hin)
   rw [mkR_at hin] at h2
   rcases hi with rfl | rfl
   · rw [h1.1,h2.1]
   · rw [h1.2,h2.2]
 · rw [List.getElem?_eq_none (by omega),List.getElem?_eq_none (by rw [fl_length,mkR_len];omega)]
set_option maxHeartbeats 8000000 in
theorem spoil20_any (v:Value) (l:List (Int × Int)) (k:Int) (base:Nat) (w:World) (h:OwnR w base v l) (hk:0≤k∧k≤1000) (hn:l.length≤1000000):Calls Tryz.prog 20 #[v,.int .i64 k] w fun e w'=>(∃ x,e = .returned x)∧Fr w w' (fun b=>v.ownBlock=some b)∧Rs w' v (mkR l.length k):=by
 obtain ⟨n,hnn⟩:∃ n,l.length=n:=⟨_,rfl⟩
 have HV:Hid ((∀ b,v.ownBlock=some b→b<w.heap.size)∧((v = .slice none 0 0∧n=0)∨∃ g c,v = .slice (some ⟨g,0,none⟩) n c∧n≤c)):=by
  refine ⟨fun b hb=>(World.ownsRow.lt h b hb).2,?_⟩
  rcases h.2 with ⟨e,h0⟩ | ⟨g,c,cur,e,_,_,hc,_⟩
  · exact .inl ⟨e,by omega⟩
  · exact .inr ⟨g,c,by rw [e,hnn],by omega⟩
 have HO0:Hid (∃ xs,w.ownsRow 0 67 2 v n xs):=⟨fl l,by
  have:=Joins.ownsRow_le h (Nat.zero_le base)
  rw [hnn] at this
  exact this⟩
 have hvs:∃ A c,v = .slice A n c:=by
  rcases HV.out.2 with ⟨e,h0⟩ | ⟨g,c,e,_⟩
  · exact ⟨none,0,by rw [e,h0]⟩
  · exact ⟨_,c,e⟩
 obtain ⟨A,c,rfl⟩:=hvs
 rw [hnn] at hn ⊢
 obtain ⟨k0,k1⟩:=hk
 have hkw:IntKind.i64.wrap (-k) = -k:=IntWalk.i64_in _ ⟨by omega,by omega⟩
 clear h hnn
 go_enter Tryz.func20,Tryz.ntmps20
 go_wp2
 go_loopw [4] (fun vi wr=>∃ j:Nat,vi = .int .i64 j∧j≤n∧Hid (Fr w wr (fun b=>(Value.slice A n c).ownBlock=some b)∧∃ xs,wr.ownsRow 0 67 2 (.slice A n c) n xs∧∀ i,i<j→xs[i*2]? = some (.int .i64 (-k))∧xs[i*2+1]? = some (.int .i64 k))) (fun vi _=>n - (intOf vi).toNat)
 case atStart=>
  obtain ⟨xs,hx⟩:=HO0.out
  exact ⟨0,rfl,by omega,Fr.refl _ _,xs,hx,fun i hi=>by omega⟩
 case round=>
  obtain ⟨j,rfl,hj,HJ⟩:=hrel
  clear HO0
  by_cases hlt:j<n
  · have hlt':(j:Int)<(n:Int):=by omega
    have hpos:(0:Int)≤(j:Int):=by omega
    obtain ⟨g,rfl⟩:∃ g,A=some ⟨g,0,none⟩:=by
     rcases HV.out.2 with ⟨_,h0⟩ | ⟨g,c',e,_⟩
     · omega
     · injection e with e1;exact ⟨g,e1⟩
    obtain ⟨hf,xs,hx,hxm⟩:=HJ.out
    obtain ⟨u0,z0⟩:=own_cell hx (j:=j*2) (by omega)
    obtain ⟨u1,z1⟩:=own_cell hx (j:=j*2+1) (by omega)
    have zf:∀ i,wr.frozen? ⟨g,i,none⟩=false:=fun i=>World.ownsRow.frozenAt hx i
    have HX:=hidT hx
    clear hx HJ
    have HE:Hid (Fr w ((wr.setCell ⟨g,j*2,none⟩ (.int .i64 (-k))).setCell ⟨g,j*2+1,none⟩ (.int .i64 k)) (fun b=>(Value.slice (some ⟨g,0,none⟩) n c).ownBlock=some b)∧∃ xs,((wr.setCell ⟨g,j*2,none⟩ (.int .i64 (-k))).setCell ⟨g,j*2+1,none⟩ (.int .i64 k)).ownsRow 0 67 2 (.slice (some ⟨g,0,none⟩) n c) n xs∧∀ i,i<j+1→xs[i*2]? = some (.int .i64 (-k))∧xs[i*2+1]? = some (.int .i64 k)):=by
     have o1:=(World.ownsRow.stored HX.out (j*2) (.int .i64 (-k))).1
     have o2:=(World.ownsRow.stored o1 (j*2+1) (.int .i64 k)).1
     have hl:=HX.out.1
     refine ⟨(hf.trans (fr_set _ g (j*2) _) fun b _ e=>by rw [e];rfl).trans (fr_set _ g (j*2+1) _) fun b _ e=>by rw [e];rfl,_,o2,fun i hi => ?_⟩
     by_cases hij:i=j
     · subst hij
       exact ⟨by rw [List.getElem?_set_ne (by omega),List.getElem?_set_self (by omega)],by rw [List.getElem?_set_self (by rw [List.length_set];omega)]⟩
     · have h1:=hxm i (by omega)
       exact ⟨by rw [List.getElem?_set_ne (by omega),List.getElem?_set_ne (by omega)];exact h1.1,by rw [List.getElem?_set_ne (by omega),List.getElem?_set_ne (by omega)];exact h1.2⟩
    clear hf hxm
    go_wp2
    exact ⟨⟨j+1,by go_num,by omega,HE⟩,by simp [intOf];omega⟩
  · have hge:¬ (j:Int)<(n:Int):=by omega
    have HS:Hid (SpI w wr (.slice A n c) (.slice A n c) n (n+0) k):=by
     obtain ⟨hf,xs,hx,hxm⟩:=HJ.out
     have e:=xs_marks hx.1 fun i hi=>hxm i (by omega)
     refine ⟨hf,?_,xs,hx,by omega,.inl ⟨rfl,by rw [←e];exact List.take_of_length_le (by rw [hx.1];omega)⟩⟩
     rcases HV.out.2 with ⟨e1,h0⟩ | ⟨g,c',e1,hc⟩
     · rw [e1,h0]
       exact ⟨none,0,rfl,Nat.le_refl _,.inl rfl⟩
     · rw [e1] at hx ⊢
       exact Rs.of_cells hc fun i u hu=>by
        have:=World.ownsRow.cells hx (g:=g) rfl i u (by rw [e];exact hu)
        rw [add_zero_at] at this
        exact this
    clear HJ
    obtain ⟨ws,hws⟩:∃ ws,ws=wr:=⟨_,rfl⟩
    subst hws
    go_wp2
    go_loopw [5,6] (fun vx vi wr=>∃ i:Nat,vi = .int .i64 i∧i≤9∧IsSl vx∧Hid (SpI w wr (.slice A n c) vx n (n+i) k)) (fun _ vi _=>9 - (intOf vi).toNat)
    case atStart=>exact ⟨0,rfl,by omega,⟨_,_,_,rfl⟩,HS.out⟩
    case round=>
     obtain ⟨i,rfl,hi,⟨xa,xn,xc,rfl⟩,HI⟩:=hrel
     clear HS
     have hi0:(0:Int)≤(i:Int):=by omega
     by_cases hi9:i<9
     · have hi9':(i:Int)<9:=by omega
       have HOW:Hid (∃ xs,(wr.alloc (.cells #[.int .i64 (-9000),.int .i64 k] 67)).ownsRow 0 67 2 (.slice xa xn xc) (n+i) xs):=by
        obtain ⟨xs,h1,_⟩:=HI.out.own
        exact ⟨xs,h1.alloc _⟩
       go_wp2_with (refine app_K2 rfl (.tmp 25) (.tmp 28) rfl (.slice xa xn xc) (n+i) rfl HOW.out _ _ rfl (-9000) k (by rw [add_zero_at];rw [cell_of (World.alloc_heap_new _ _)];rfl) (by rw [add_zero_at];rw [cell_of (World.alloc_heap_new _ _)];rfl) (by omega) ?_;intro v2 w2 h2 h3;have HI2:=hidT (HI.out.more HV.out.1 HV.out.2 ((Grown.refl _).alloc _) h2 h3);clear h2 h3)
       have hsl:IsSl v2:=by
        obtain ⟨xs,h1,_⟩:=HI2.out.own
        rcases h1.2 with ⟨e,_⟩ | ⟨g,c',_,e,_⟩
        · exact ⟨_,_,_,e⟩
        · exact ⟨_,_,_,e⟩
       exact ⟨⟨i+1,by go_num,by omega,hsl,HI2⟩,by simp [intOf];omega⟩
     · have hi9':¬ (i:Int)<9:=by omega
       have HF:=hidT (And.intro HI.out.fr HI.out.rs)
       go_wp2
       go_end0
       exact ⟨⟨_,rfl⟩,HF.out⟩
end Go.Proofs
