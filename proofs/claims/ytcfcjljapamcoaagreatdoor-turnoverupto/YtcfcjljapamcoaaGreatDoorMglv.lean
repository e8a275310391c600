/-
  Several texts in one (Og Oh).
-/
import Derived.RangeFuncNested
import Derived.RangeFuncBound
import Derived.RangeFuncCalls
import Derived.RangeFuncLeaves
import Derived.Shelf.Abstract
import Derived.Shelf.RegionOpen
import Derived.WalkKit
import Derived.WalkSpells
import Derived.WalkLawsBesides
import Derived.OwnWalkIn
import Derived.TacticsInMore
import Derived.LoopNIn
import Derived.LoopIn
import Derived.BigQuiet
import Derived.RegionIn
import Derived.Deep.QuietTactic
import Derived.Deep.RegionWith
import Derived.Lib.OthersKept
import Derived.Maps.AppendAt
import Derived.Lib.SmallJoins
import Derived.Shelf.SlSortCmp.QuietGrown
import Derived.Test.YtcfcjljapamcoaaGreatDoorMgiv
namespace Go.Proofs
open Go.RowKit Go.Shelf
set_option maxRecDepth 100000
attribute [local go_sem] Oper.semAt_some
attribute [local go_sem ↓] Go.wp_at_zero Go.wp_at_succ
theorem flatV_at {α:Type} (f:α→List Value) (m:Nat) (hf:∀ x,(f x).length=m):∀ (l:List α) (j i:Nat) (hj:j<l.length),i<m→(l.flatMap f)[j*m+i]? = (f l[j])[i]?
 | x::l,0,i,_,hi=>by simp only [Nat.zero_mul,Nat.zero_add,List.flatMap_cons,List.getElem_cons_zero];rw [List.getElem?_append_left (by rw [hf];exact hi)]
 | x::l,j+1,i,hj,hi=>by
  have ih:=flatV_at f m hf l j i (by simpa using hj) hi
  have hm:m≤(j+1)*m+i:=by rw [Nat.succ_mul];omega
  rw [List.flatMap_cons,List.getElem?_append_right (by rw [hf];exact hm),hf]
  have e:(j+1)*m+i - m=j*m+i:=by rw [Nat.succ_mul];omega
  rw [e,ih]
  rfl
theorem flatV_len {α:Type} (f:α→List Value) (m:Nat) (hf:∀ x,(f x).length=m) (l:List α):(l.flatMap f).length=l.length*m:=by
 induction l with
 | nil=>simp
 | cons x l ih=>rw [List.flatMap_cons,List.length_append,ih,hf,List.length_cons,Nat.succ_mul];omega
theorem rg_app {a b:List (Int × Int)} {j:Nat} (hj:j<a.length):rg (a++b) j=rg a j:=by simp only [rg];rw [List.getElem?_append_left hj]
theorem own_cut {w:World} {base:Nat} {v:Value} {l:List (Int × Int)} (h:OwnR w base v (l++[(-77,-78)])):Rs w (cut v) l:=by
 have h2:=h
 unfold OwnR at h2
 rw [List.length_append] at h2
 obtain ⟨g,cap,hv,_,_,hc,_⟩:=fl_slice (m:=l.length) h2
 subst hv
 refine ⟨some ⟨g,0,none⟩,cap,rfl,by omega,.inr ⟨g,0,rfl,fun j hj => ?_⟩⟩
 have:=OwnR.reads h j (by simp;omega)
 rw [rg_app hj] at this
 exact this
section
variable {w:World} {base xb:Nat} {pv rv sv gv cv:Value} {G:List It} {S:List (Value × List It)} {C:List (Value × List (Pc × Value))} {R:List LRu} {re:List Value} {n:Nat}
theorem LX.sr (h:LX w base xb pv rv sv gv cv G S C R re n) {x:Value × List It} (hx:x∈S):SR w (cut x.1) (x.2.map Prod.snd):=by
 obtain ⟨⟨mv,_,ho⟩,hi⟩:=h.si x hx
 obtain ⟨g,cap,hv,_,_,hc,_⟩:=fl_slice ho
 rw [hv] at ho ⊢
 refine ⟨some ⟨g,0,none⟩,cap,by simp [cut],by simp;omega,.inr ⟨g,0,rfl,fun j hj => ?_⟩⟩
 have hj2:j<x.2.length:=by simpa using hj
 refine ⟨cut x.2[j].1,?_,?_⟩
 · rw [Nat.zero_add,World.ownsRow.cellAt ho j (by omega),List.getElem?_append_left (by simpa using hj2)]
   simp [hj2]
 · have:=own_cut (h.gi _ (hi x.2[j] (List.getElem_mem hj2)))
   simpa using this
theorem LX.pr (h:LX w base xb pv rv sv gv cv G S C R re n) {x:Value × List (Pc × Value)} (hx:x∈C):PR w (cut x.1) (x.2.map Prod.fst):=by
 obtain ⟨ho,hi⟩:=h.ci x hx
 obtain ⟨g,cap,hv,_,_,hc,_⟩:=fl_slice ho
 rw [hv] at ho ⊢
 refine ⟨some ⟨g,0,none⟩,cap,by simp [cut],by simp;omega,.inr ⟨g,0,rfl,fun j hj => ?_⟩⟩
 have hj2:j<x.2.length:=by simpa using hj
 have at4:∀ i,i<4→w.cell? ⟨g,0+j*4+i,none⟩=([.int .i64 x.2[j].1.k,.int .i64 x.2[j].1.u,.int .i64 x.2[j].1.y,cut x.2[j].2]:List Value)[i]? := fun i hi4=>by
  rw [Nat.zero_add,World.ownsRow.cellAt ho _ (by omega),List.getElem?_append_left (by unfold pcells;rw [flatV_len _ 4 (fun _=>rfl)];omega)]
  exact flatV_at _ 4 (fun _=>rfl) x.2 j i hj2 hi4
 refine ⟨cut x.2[j].2,?_,?_,?_,?_,?_⟩
 · simpa using at4 0 (by omega)
 · simpa using at4 1 (by omega)
 · simpa using at4 2 (by omega)
 · simpa using at4 3 (by omega)
 · have:=own_cut (h.gi _ (hi x.2[j] (List.getElem_mem hj2)))
   simpa using this
theorem LX.psr (h:LX w base xb pv rv sv gv cv G S C R re (R.length+1)) {g c:Nat} (hr:rv = .slice (some ⟨g,0,none⟩) (R.length+1) c):PsR w (.slice (some ⟨g,0,none⟩) R.length c) (R.map LRu.rl):=by
 have ho:=h.r
 rw [hr] at ho
 have hc:R.length+1≤c:=by
  rcases ho.2 with ⟨e,_⟩ | ⟨_,_,_,e,_,_,h2,_⟩
  · cases e
  · injection e with _ _ e;omega
 refine ⟨some ⟨g,0,none⟩,c,by simp,by simp;omega,.inr ⟨g,0,rfl,fun j hj => ?_⟩⟩
 have hj2:j<R.length:=by simpa using hj
 obtain ⟨m1,m2,m3,m4⟩:=h.ri R[j] (List.getElem_mem hj2)
 have at7:∀ i,i<7→w.cell? ⟨g,0+j*7+i,none⟩=R[j].cells[i]? := fun i hi7=>by
  rw [Nat.zero_add,World.ownsRow.cellAt ho _ (by omega),List.getElem?_append_left (by unfold rucells;rw [flatV_len _ 7 (fun _=>rfl)];omega)]
  exact flatV_at _ 7 (fun _=>rfl) R j i hj2 hi7
 rw [List.getElem_map]
 refine ⟨cut R[j].a.1,cut R[j].k.1,cut R[j].p.1,cut R[j].q.1,?_,?_,?_,?_,?_,?_,?_,⟨h.sr m1,h.sr m2,h.sr m3,h.pr m4⟩⟩
 · simpa [LRu.cells,LRu.rl] using at7 0 (by omega)
 · simpa [LRu.cells,LRu.rl] using at7 1 (by omega)
 · simpa [LRu.cells,LRu.rl] using at7 2 (by omega)
 · simpa [LRu.cells,LRu.rl] using at7 3 (by omega)
 · simpa [LRu.cells,LRu.rl] using at7 4 (by omega)
 · simpa [LRu.cells,LRu.rl] using at7 5 (by omega)
 · simpa [LRu.cells,LRu.rl] using at7 6 (by omega)
end
def BT {α:Type} (l:List (Value × α)) (b:Nat):Prop:=∃ x∈l,x.1.ownBlock=some b
theorem BT.take {α:Type} {l:List (Value × α)} {i b:Nat} (h:BT (l.take i) b):BT l b:=by
 obtain ⟨x,hx,e⟩:=h
 exact ⟨x,List.mem_of_mem_take hx,e⟩
theorem BT.succ {α:Type} {l:List (Value × α)} {i b:Nat} (h:BT (l.take i) b):BT (l.take (i+1)) b:=by
 obtain ⟨x,hx,e⟩:=h
 exact ⟨x,by rw [List.take_add_one];exact List.mem_append_left _ hx,e⟩
theorem BT.last {α:Type} {l:List (Value × α)} {i:Nat} (hi:i<l.length) {b:Nat} (h:l[i].1.ownBlock=some b):BT (l.take (i+1)) b:=⟨l[i],by rw [List.take_add_one,List.getElem?_eq_getElem hi];exact List.mem_append_right _ (by simp),h⟩
theorem BT.not {α:Type} {l:List (Value × α)} (hn:(l.map fun x=>x.1.ownBlock).Nodup) {i:Nat} (hi:i<l.length) {b:Nat} (h:l[i].1.ownBlock=some b):¬ BT (l.take i) b:=by
 rintro ⟨x,hx,e⟩
 obtain ⟨j,hj,rfl⟩:=List.getElem_of_mem hx
 rw [List.getElem_take] at e
 have hji:j<i:=by simp at hj;omega
 have:=List.pairwise_iff_getElem.1 hn j i (by simp;omega) (by simpa using hi) hji
 simp at this
 exact this (e.trans h.symm)
theorem own_cell {w:World} {base:Nat} {e:TypeId} {size g n cap:Nat} {xs:List Value} (h:w.ownsRow base e size (.slice (some ⟨g,0,none⟩) n cap) n xs) {j:Nat} (hj:j<n*size):∃ u,w.cell? ⟨g,j,none⟩=some u:=by
 rw [World.ownsRow.cellAt h j hj]
 exact ⟨xs[j]'(by rw [h.1];exact hj),List.getElem?_eq_getElem _⟩
theorem own_max {w:World} {base:Nat} {e:TypeId} {size:Nat} {v:Value} {n:Nat} {xs:List Value} (h:w.ownsRow base e size v n xs):n≤9223372036854775807:=by
 rcases h.2 with ⟨_,h0⟩ | ⟨_,_,_,_,_,_,h1,h2,_⟩
 · omega
 · unfold maxLen at h2;omega
theorem own_form {w:World} {base:Nat} {e:TypeId} {size:Nat} {v:Value} {n:Nat} {xs:List Value} (h:w.ownsRow base e size v n xs) (hn:0<n):∃ g cap,v = .slice (some ⟨g,0,none⟩) n cap∧n≤cap:=by
 rcases h.2 with ⟨_,h0⟩ | ⟨g,cap,cur,rfl,_,_,h3,_⟩
 · omega
 · exact ⟨g,cap,rfl,h3⟩
theorem own_len {w:World} {base:Nat} {e:TypeId} {size:Nat} {v:Value} {n:Nat} {xs:List Value} (h:w.ownsRow base e size v n xs):∃ a cap,v = .slice a n cap:=by
 rcases h.2 with ⟨rfl,rfl⟩ | ⟨g,cap,cur,rfl,_⟩
 · exact ⟨_,_,rfl⟩
 · exact ⟨_,_,rfl⟩
theorem fr_more {w wr W:World} {B:Nat→Prop} (h:Fr w wr B) (k:Grown wr W):Fr w W B:=h.trans (fr_grown k fun _=>False) fun _ _ e=>e.elim
set_option maxHeartbeats 16000000 in
theorem still_lxF {w:World} {base xb:Nat} {rv sv gv cv:Value} {G:List It} {S:List (Value × List It)} {C:List (Value × List (Pc × Value))} {R:List LRu} {g c N:Nat} {rs:List Rl} (h:LX w base xb (.slice (some ⟨g,0,none⟩) N c) rv sv gv cv G S C R [.bool false,.slice none 0 0,.slice none 0 0,.slice none 0 0,.bool false,.slice none 0 0,.int .i64 (-77)] (N+1)) (hrv:rv = .slice (some ⟨g,0,none⟩) (N+1) c) (hR:R.map LRu.rl=rs) (hN:rs.length=N) (bv:Value) (hb:PsR w bv rs) (hn:N≤1048576) (hz:∀ r∈rs,Go.Proofs.YtcfcjljapamcoaaGreatDoor.Small r 1048576) :
 Calls Tryz.prog 15 #[.pointer (some ⟨xb,0,none⟩),.agg #[bv]] w fun e w'=>e = .returned (.bool true)∧Fr w w' (fun b=>(BT G b∨BT S b∨BT C b)∨b=g):=by
 have he:=eql84
 have hRl:R.length=N:=by rw [←hN,←hR];simp
 have hps:PsR w (.slice (some ⟨g,0,none⟩) N c) rs:=by
  have:=LX.psr (w:=w) (base:=base) (xb:=xb) (R:=R) (by rw [hRl];exact h) (g:=g) (c:=c) (by rw [hRl];exact hrv)
  rw [hRl,hR] at this
  exact this
 have HX:Hid (LX w base xb (.slice (some ⟨g,0,none⟩) N c) rv sv gv cv G S C R [.bool false,.slice none 0 0,.slice none 0 0,.slice none 0 0,.bool false,.slice none 0 0,.int .i64 (-77)] (N+1)):=h
 have HSP:Hid (∀ V,Grown w V→Calls Tryz.prog 14 #[.agg #[.slice (some ⟨g,0,none⟩) N c],.agg #[bv]] V fun e w'=>e = .returned (.bool true)∧Grown V w'):=fun V hg=>samePass_eq _ _ rs V (hps.grown hg) (hb.grown hg) (by omega) hz
 obtain ⟨b1,b3,hbv,_,_⟩:=hb
 rw [hN] at hbv
 subst hbv
 have hNI:(N:Int)≤1048576:=by omega
 have hN0:(0:Int)≤(N:Int):=by omega
 have hlast:w.cell? ⟨g,N*7+6,none⟩=some (.int .i64 (-77)):=by
  have ho:=h.r
  rw [hrv] at ho
  rw [World.ownsRow.cellAt ho _ (by omega),List.getElem?_append_right (by unfold rucells;rw [flatV_len _ 7 (fun _=>rfl),hRl];omega)]
  unfold rucells
  rw [flatV_len _ 7 (fun _=>rfl),hRl,show N*7+6 - N*7=6 by omega]
  rfl
 subst hrv
 have hc1:N+1≤c:=by
  rcases h.r.2 with ⟨e,_⟩ | ⟨_,_,_,e,_,_,h2,_⟩
  · cases e
  · injection e with _ _ e;omega
 have c0:w.cell? ⟨xb,0,none⟩=some (.slice (some ⟨g,0,none⟩) N c):=by rw [cell_of h.x];rfl
 have c1:w.cell? ⟨xb,1,none⟩=some (.slice (some ⟨g,0,none⟩) (N+1) c):=by rw [cell_of h.x];rfl
 clear hps h hz
 go_enter Tryz.func15,Tryz.ntmps15
 go_wp2
 obtain ⟨w1,hw1⟩:∃ w1,w1=w.alloc (.cells #[.slice b1 N b3] 24):=⟨_,rfl⟩
 obtain ⟨B,hB⟩:∃ B,w.heap.size=B:=⟨_,rfl⟩
 have HG1:Hid (Grown w w1):=by rw [hw1];exact (Grown.refl _).alloc _
 have q0:w1.cell? ⟨B,0,none⟩=some (.slice b1 N b3):=by rw [hw1,cell_of (new_blk hB)];rfl
 have k0:=fun m os=>((Grown.refl w1).quiet m os).cellv q0
 have k1:=fun m os=>((Grown.refl w1).quiet m os).cellv (HG1.out.cellv c0)
 have k2:=fun m os=>((Grown.refl w1).quiet m os).cellv (HG1.out.cellv c1)
 have k3:=fun m os=>((Grown.refl w1).quiet m os).cellv (HG1.out.cellv hlast)
 have HC:Hid (∀ m os,Calls Tryz.prog 14 #[.agg #[.slice (some ⟨g,0,none⟩) N c],.agg #[.slice b1 N b3]] (Go.Sort.grow (w1.drewN m) os) fun e w'=>e = .returned (.bool true)∧Grown (Go.Sort.grow (w1.drewN m) os) w'):=fun m os=>HSP.out _ (HG1.out.trans ((Grown.refl w1).quiet m os))
 rw [←hw1,hB]
 clear hw1 hB hlast c0 c1
 refine wp_region_quiet_grown mixed (by kernel_rfl) ?_
 repeat (go_big_quiet_step ((go_at_call 14;exact grown_of (HC.out _ _))))
 refine wpQuiet_nil ?_
 intro _ hw'
 obtain ⟨⟨nq,osq⟩,hw''⟩:=hw'
 subst hw''
 have HG2:Hid (Grown w (Go.Sort.grow (w1.drewN nq) osq)):=HG1.out.trans ((Grown.refl w1).quiet _ _)
 generalize Go.Sort.grow (w1.drewN nq) osq=w2 at HG2 ⊢
 clear k0 k1 k2 k3 HC HSP q0 HG1
 go_wp2
 go_loopw [5,6] (fun v5 vi wr=>v5 = .bool true∧∃ i:Nat,vi = .int .i64 i∧i≤G.length∧Hid (Fr w wr (fun b=>BT (G.take i) b))) (fun _ vi _=>G.length - (intOf vi).toNat)
 case atStart=>exact ⟨rfl,0,rfl,Nat.zero_le _,fr_grown HG2.out _⟩
 case round=>
  obtain ⟨rfl,i,rfl,hi,HFR⟩:=hrel
  have hi0:(0:Int)≤(i:Int):=by omega
  have hrow:=own_fr HX.out.g HFR.out (fun b hb h=>by obtain ⟨x,hx,e⟩:=h;exact own_ne HX.out.g (HX.out.gi x (List.mem_of_mem_take hx)) (by decide) hb e)
  have hxb:=keep_blk HFR.out HX.out.x (fun h=>by obtain ⟨x,hx,e⟩:=h;exact HX.out.x_ne (HX.out.gi x (List.mem_of_mem_take hx)) (by decide) e)
  have d3:wr.cell? ⟨xb,3,none⟩=some gv:=by rw [cell_of hxb];rfl
  obtain ⟨lva,lvc,hlv⟩:=own_len hrow
  have hmx:=own_max hrow
  by_cases hlt:i<G.length
  · have hil:=hlt
    have hltI:(i:Int)<(G.length:Int):=by omega
    have hit:w.ownsRow base 67 2 G[i].1 (G[i].2.length+1) (fl (G[i].2++[(-77,-78)])):=by have:=HX.out.gi _ (List.getElem_mem hil);unfold OwnR at this;rw [List.length_append] at this;exact this
    have hit2:=own_fr hit HFR.out (fun b hb h=>by exact BT.not HX.out.ng hil hb h)
    obtain ⟨lg,lcap,hlv2,_⟩:=own_form hrow (by omega)
    have hcell:wr.cell? ⟨lg,i,none⟩=some G[i].1:=by
     rw [hlv2] at hrow
     rw [World.ownsRow.cellAt hrow i (by omega)]
     simp [hil]
    obtain ⟨m,hm⟩:∃ m,G[i].2.length=m:=⟨_,rfl⟩
    have HMM:=Hid.mk' hm
    rw [hm] at hit2
    obtain ⟨ib,icap,hiv,_,_,_,hib⟩:=fl_slice hit2
    rw [hiv] at hit2 hcell
    have hmm:=own_max hit2
    have HIT:=Hid.mk' hit2
    have HLST:Hid (∀ b,b=ib→(fun b=>BT (G.take (i+1)) b) b):=fun b e=>by subst e;exact BT.last hil hib
    have y0:wr.cell? ⟨ib,m*2,none⟩=some (.int .i64 (-77)):=by rw [World.ownsRow.cellAt hit2 _ (by omega),fl_append,List.getElem?_append_right (by rw [fl_length];omega),fl_length,HMM.out,show m*2 - m*2=0 by omega];rfl
    have y1:wr.cell? ⟨ib,m*2+1,none⟩=some (.int .i64 (-78)):=by rw [World.ownsRow.cellAt hit2 _ (by omega),fl_append,List.getElem?_append_right (by rw [fl_length];omega),fl_length,HMM.out,show m*2+1 - m*2=1 by omega];rfl
    have k0:=fun m' os=>((Grown.refl wr).quiet m' os).cellv y0
    have k1:=fun m' os=>((Grown.refl wr).quiet m' os).cellv y1
    have HMK:Hid (∀ m' os,Calls Tryz.prog 43 #[] (Go.Sort.grow (wr.drewN m') os) fun e w'=>e = .returned (.agg #[.int .i64 (-77),.int .i64 (-78)])∧Grown (Go.Sort.grow (wr.drewN m') os) w'):=fun m' os=>mark_any _
    have hmI:(m:Int)+1≤9223372036854775807:=by omega
    rw [hlv2] at d3
    clear hit hit2 hm hiv hib hrow hxb hlv hlv2
    go_wp2
    refine wp_region_quiet_grown mixed (by kernel_rfl) ?_
    repeat (go_big_quiet_step ((go_at_call 43;exact grown_of (HMK.out _ _))))
    refine wpQuiet_nil ?_
    intro _ hw'
    obtain ⟨⟨nq,osq⟩,hw''⟩:=hw'
    subst hw''
    have HIN:Hid (Fr w (Go.Sort.grow (wr.drewN nq) osq) (fun b=>BT (G.take (i+1)) b)∧∃ xs,(Go.Sort.grow (wr.drewN nq) osq).ownsRow base 67 2 (.slice (some ⟨ib,0,none⟩) (m+1) icap) (m+1) xs):=⟨(fr_more HFR.out ((Grown.refl wr).quiet nq osq)).mono (fun _ _ h=>BT.succ h),_,own_fr HIT.out (fr_grown ((Grown.refl wr).quiet nq osq) fun _=>False) fun _ _=>id⟩
    generalize Go.Sort.grow (wr.drewN nq) osq=wI at HIN ⊢
    clear k0 k1 HMK y0 y1
    go_wp2
    go_loopw [8] (fun vk wr=>∃ k:Nat,vk = .int .i64 k∧k≤m+1∧Hid (Fr w wr (fun b=>BT (G.take (i+1)) b)∧∃ xs,wr.ownsRow base 67 2 (.slice (some ⟨ib,0,none⟩) (m+1) icap) (m+1) xs)) (fun vk _=>m+1 - (intOf vk).toNat)
    case atStart=>exact ⟨0,rfl,by omega,HIN⟩
    case round=>
     clear HIN
     obtain ⟨k,rfl,hk,HFk⟩:=hrel
     have hk0:(0:Int)≤(k:Int):=by omega
     obtain ⟨_,xs,hxs⟩:=HFk.out
     by_cases hltk:k<m+1
     · have hltkI:(k:Int)<(m:Int)+1:=by omega
       obtain ⟨u0,z0⟩:=own_cell hxs (j:=k*2) (by omega)
       obtain ⟨u1,z1⟩:=own_cell hxs (j:=k*2+1) (by omega)
       have zf:∀ j,wr.frozen? ⟨ib,j,none⟩=false:=fun j=>World.ownsRow.frozenAt hxs j
       have HO0:=Hid.mk' hxs
       clear hxs
       go_wp2
       have o0:=HO0.out
       have o1:=(World.ownsRow.stored o0 (k*2) (.int .i64 97)).1
       have o2:=(World.ownsRow.stored o1 (k*2+1) (.int .i64 99)).1
       exact ⟨⟨k+1,by go_num,by omega,((HFk.out.1.trans (fr_set _ ib (k*2) (.int .i64 97)) fun _ _ e=>HLST.out _ e).trans (fr_set _ ib (k*2+1) (.int .i64 99)) fun _ _ e=>HLST.out _ e),_,o2⟩,by simp [intOf];omega⟩
     · have hgek:¬ (k:Int)<(m:Int)+1:=by omega
       have HFe:=Hid.mk' HFk.out.1
       clear hxs HFk
       go_wp2
       exact ⟨⟨rfl,i+1,by go_num,by omega,HFe⟩,by simp [intOf];omega⟩
  · have hge:¬ (i:Int)<(G.length:Int):=by omega
    have HEND:Hid (Fr w wr (fun b=>BT G b)):=HFR.out.mono (fun _ _ h=>BT.take h)
    rw [hlv] at d3
    clear hrow hxb hlv HFR
    go_wp2
    clear d3
    go_loopw [5,9] (fun v5 vi wr=>v5 = .bool true∧∃ i:Nat,vi = .int .i64 i∧i≤S.length∧Hid (Fr w wr (fun b=>BT G b∨BT (S.take i) b))) (fun _ vi _=>S.length - (intOf vi).toNat)
    case atStart=>exact ⟨rfl,0,rfl,Nat.zero_le _,HEND.out.mono fun _ _ h => .inl h⟩
    case round=>
     obtain ⟨rfl,i,rfl,hi,HFR⟩:=hrel
     have hi0:(0:Int)≤(i:Int):=by omega
     have hrow:=own_fr HX.out.s HFR.out (fun b hb h=>by
     rcases h with h | h
     · obtain ⟨x,hx,e⟩:=h;exact own_ne HX.out.s (HX.out.gi x hx) (by decide) hb e
     · obtain ⟨x,hx,e⟩:=h;obtain ⟨⟨_,_,h1⟩,_⟩:=HX.out.si x (List.mem_of_mem_take hx);exact own_ne HX.out.s h1 (by decide) hb e)
     have hxb:=keep_blk HFR.out HX.out.x (fun h=>by
     rcases h with h | h
     · obtain ⟨x,hx,e⟩:=h;exact HX.out.x_ne (HX.out.gi x hx) (by decide) e
     · obtain ⟨x,hx,e⟩:=h;obtain ⟨⟨_,_,h1⟩,_⟩:=HX.out.si x (List.mem_of_mem_take hx);exact HX.out.x_ne h1 (by decide) e)
     have d2:wr.cell? ⟨xb,2,none⟩=some sv:=by rw [cell_of hxb];rfl
     obtain ⟨lva,lvc,hlv⟩:=own_len hrow
     have hmx:=own_max hrow
     by_cases hlt:i<S.length
     · have hil:=hlt
       have hltI:(i:Int)<(S.length:Int):=by omega
       obtain ⟨⟨mv,⟨mva,mvc,hmv⟩,hit⟩,_⟩:=HX.out.si _ (List.getElem_mem hil)
       subst hmv
       have hit2:=own_fr hit HFR.out (fun b hb h=>by
     rcases h with h | h
     · obtain ⟨x,hx,e⟩:=h;exact own_ne hit (HX.out.gi x hx) (by decide) hb e
     · exact BT.not (List.nodup_cons.1 HX.out.ns).2 hil hb h)
       obtain ⟨lg,lcap,hlv2,_⟩:=own_form hrow (by omega)
       have hcell:wr.cell? ⟨lg,i,none⟩=some S[i].1:=by
        rw [hlv2] at hrow
        rw [World.ownsRow.cellAt hrow i (by omega)]
        simp [hil]
       obtain ⟨m,hm⟩:∃ m,S[i].2.length=m:=⟨_,rfl⟩
       have HMM:=Hid.mk' hm
       rw [hm] at hit2
       obtain ⟨ib,icap,hiv,_,_,_,hib⟩:=fl_slice hit2
       rw [hiv] at hit2 hcell
       have hmm:=own_max hit2
       have HIT:=Hid.mk' hit2
       have HLST:Hid (∀ b,b=ib→(fun b=>BT G b∨BT (S.take (i+1)) b) b):=fun b e=>by subst e;exact Or.inr (BT.last hil hib)
       have y0:wr.cell? ⟨ib,m,none⟩=some (.slice mva 1 mvc):=by rw [World.ownsRow.cellAt hit2 _ (by omega),List.getElem?_append_right (by simp [HMM.out]),List.length_map,HMM.out,show m - m=0 by omega];rfl
       have hmI:(m:Int)+1≤9223372036854775807:=by omega
       rw [hlv2] at d2
       clear hit hit2 hm hiv hib hrow hxb hlv hlv2
       have HIN:Hid (Fr w wr (fun b=>BT G b∨BT (S.take (i+1)) b)∧∃ xs,wr.ownsRow base 40 1 (.slice (some ⟨ib,0,none⟩) (m+1) icap) (m+1) xs):=⟨HFR.out.mono (fun _ _ h=>h.imp id BT.succ),_,HIT.out⟩
       go_wp2
       go_loopw [11] (fun vk wr=>∃ k:Nat,vk = .int .i64 k∧k≤m+1∧Hid (Fr w wr (fun b=>BT G b∨BT (S.take (i+1)) b)∧∃ xs,wr.ownsRow base 40 1 (.slice (some ⟨ib,0,none⟩) (m+1) icap) (m+1) xs)) (fun vk _=>m+1 - (intOf vk).toNat)
       case atStart=>exact ⟨0,rfl,by omega,HIN⟩
       case round=>
        clear HIN
        obtain ⟨k,rfl,hk,HFk⟩:=hrel
        have hk0:(0:Int)≤(k:Int):=by omega
        obtain ⟨_,xs,hxs⟩:=HFk.out
        by_cases hltk:k<m+1
        · have hltkI:(k:Int)<(m:Int)+1:=by omega
          obtain ⟨u0,z0⟩:=own_cell hxs (j:=k) (by omega)
          have zf:∀ j,wr.frozen? ⟨ib,j,none⟩=false:=fun j=>World.ownsRow.frozenAt hxs j
          have HO0:=Hid.mk' hxs
          clear hxs
          go_wp2
          have o0:=HO0.out
          have o1:=(World.ownsRow.stored o0 (k) (.slice none 0 0)).1
          exact ⟨⟨k+1,by go_num,by omega,(HFk.out.1.trans (fr_set _ ib (k) (.slice none 0 0)) fun _ _ e=>HLST.out _ e),_,o1⟩,by simp [intOf];omega⟩
        · have hgek:¬ (k:Int)<(m:Int)+1:=by omega
          have HFe:=Hid.mk' HFk.out.1
          clear hxs HFk
          go_wp2
          exact ⟨⟨rfl,i+1,by go_num,by omega,HFe⟩,by simp [intOf];omega⟩
     · have hge:¬ (i:Int)<(S.length:Int):=by omega
       have HEND:Hid (Fr w wr (fun b=>BT G b∨BT S b)):=HFR.out.mono (fun _ _ h=>h.imp id BT.take)
       rw [hlv] at d2
       clear hrow hxb hlv HFR
       go_wp2
       clear d2
       go_loopw [5,12] (fun v5 vi wr=>v5 = .bool true∧∃ i:Nat,vi = .int .i64 i∧i≤C.length∧Hid (Fr w wr (fun b=>BT G b∨BT S b∨BT (C.take i) b))) (fun _ vi _=>C.length - (intOf vi).toNat)
       case atStart=>exact ⟨rfl,0,rfl,Nat.zero_le _,HEND.out.mono fun _ _ h=>h.elim (fun h => .inl h) fun h => .inr (.inl h)⟩
       case round=>
        obtain ⟨rfl,i,rfl,hi,HFR⟩:=hrel
        have hi0:(0:Int)≤(i:Int):=by omega
        have hrow:=own_fr HX.out.c HFR.out (fun b hb h=>by
        rcases h with h | h | h
        · obtain ⟨x,hx,e⟩:=h;exact own_ne HX.out.c (HX.out.gi x hx) (by decide) hb e
        · obtain ⟨x,hx,e⟩:=h;obtain ⟨⟨_,_,h1⟩,_⟩:=HX.out.si x hx;exact own_ne HX.out.c h1 (by decide) hb e
        · obtain ⟨x,hx,e⟩:=h;exact own_ne HX.out.c (HX.out.ci x (List.mem_of_mem_take hx)).1 (by decide) hb e)
        have hxb:=keep_blk HFR.out HX.out.x (fun h=>by
        rcases h with h | h | h
        · obtain ⟨x,hx,e⟩:=h;exact HX.out.x_ne (HX.out.gi x hx) (by decide) e
        · obtain ⟨x,hx,e⟩:=h;obtain ⟨⟨_,_,h1⟩,_⟩:=HX.out.si x hx;exact HX.out.x_ne h1 (by decide) e
        · obtain ⟨x,hx,e⟩:=h;exact HX.out.x_ne (HX.out.ci x (List.mem_of_mem_take hx)).1 (by decide) e)
        have d4:wr.cell? ⟨xb,4,none⟩=some cv:=by rw [cell_of hxb];rfl
        obtain ⟨lva,lvc,hlv⟩:=own_len hrow
        have hmx:=own_max hrow
        by_cases hlt:i<C.length
        · have hil:=hlt
          have hltI:(i:Int)<(C.length:Int):=by omega
          have hit:=(HX.out.ci _ (List.getElem_mem hil)).1
          have hit2:=own_fr hit HFR.out (fun b hb h=>by
        rcases h with h | h | h
        · obtain ⟨x,hx,e⟩:=h;exact own_ne hit (HX.out.gi x hx) (by decide) hb e
        · obtain ⟨x,hx,e⟩:=h;obtain ⟨⟨_,_,h1⟩,_⟩:=HX.out.si x hx;exact own_ne hit h1 (by decide) hb e
        · exact BT.not HX.out.nc hil hb h)
          obtain ⟨lg,lcap,hlv2,_⟩:=own_form hrow (by omega)
          have hcell:wr.cell? ⟨lg,i,none⟩=some C[i].1:=by
           rw [hlv2] at hrow
           rw [World.ownsRow.cellAt hrow i (by omega)]
           simp [hil]
          obtain ⟨m,hm⟩:∃ m,C[i].2.length=m:=⟨_,rfl⟩
          have HMM:=Hid.mk' hm
          rw [hm] at hit2
          obtain ⟨ib,icap,hiv,_,_,_,hib⟩:=fl_slice hit2
          rw [hiv] at hit2 hcell
          have hmm:=own_max hit2
          have HIT:=Hid.mk' hit2
          have HLST:Hid (∀ b,b=ib→(fun b=>BT G b∨BT S b∨BT (C.take (i+1)) b) b):=fun b e=>by subst e;exact Or.inr (Or.inr (BT.last hil hib))
          have y0:wr.cell? ⟨ib,m*4,none⟩=some (.int .i64 (-77)):=by rw [World.ownsRow.cellAt hit2 _ (by omega),List.getElem?_append_right (by unfold pcells;rw [flatV_len _ 4 (fun _=>rfl),HMM.out];omega)];unfold pcells;rw [flatV_len _ 4 (fun _=>rfl),HMM.out,show m*4 - m*4=0 by omega];rfl
          have hmI:(m:Int)+1≤9223372036854775807:=by omega
          rw [hlv2] at d4
          clear hit hit2 hm hiv hib hrow hxb hlv hlv2
          have HIN:Hid (Fr w wr (fun b=>BT G b∨BT S b∨BT (C.take (i+1)) b)∧∃ xs,wr.ownsRow base 64 4 (.slice (some ⟨ib,0,none⟩) (m+1) icap) (m+1) xs):=⟨HFR.out.mono (fun _ _ h=>h.imp id (Or.imp id BT.succ)),_,HIT.out⟩
          go_wp2
          go_loopw [14] (fun vk wr=>∃ k:Nat,vk = .int .i64 k∧k≤m+1∧Hid (Fr w wr (fun b=>BT G b∨BT S b∨BT (C.take (i+1)) b)∧∃ xs,wr.ownsRow base 64 4 (.slice (some ⟨ib,0,none⟩) (m+1) icap) (m+1) xs)) (fun vk _=>m+1 - (intOf vk).toNat)
          case atStart=>exact ⟨0,rfl,by omega,HIN⟩
          case round=>
           clear HIN
           obtain ⟨k,rfl,hk,HFk⟩:=hrel
           have hk0:(0:Int)≤(k:Int):=by omega
           obtain ⟨_,xs,hxs⟩:=HFk.out
           by_cases hltk:k<m+1
           · have hltkI:(k:Int)<(m:Int)+1:=by omega
             obtain ⟨u0,z0⟩:=own_cell hxs (j:=k*4) (by omega)
             obtain ⟨u1,z1⟩:=own_cell hxs (j:=k*4+1) (by omega)
             obtain ⟨u2,z2⟩:=own_cell hxs (j:=k*4+2) (by omega)
             obtain ⟨u3,z3⟩:=own_cell hxs (j:=k*4+3) (by omega)
             have zf:∀ j,wr.frozen? ⟨ib,j,none⟩=false:=fun j=>World.ownsRow.frozenAt hxs j
             have HO0:=Hid.mk' hxs
             clear hxs
             go_wp2
             have o0:=HO0.out
             have o1:=(World.ownsRow.stored o0 (k*4) (.int .i64 5)).1
             have o2:=(World.ownsRow.stored o1 (k*4+1) (.int .i64 0)).1
             have o3:=(World.ownsRow.stored o2 (k*4+2) (.int .i64 0)).1
             have o4:=(World.ownsRow.stored o3 (k*4+3) (.slice none 0 0)).1
             exact ⟨⟨k+1,by go_num,by omega,((((HFk.out.1.trans (fr_set _ ib (k*4) (.int .i64 5)) fun _ _ e=>HLST.out _ e).trans (fr_set _ ib (k*4+1) (.int .i64 0)) fun _ _ e=>HLST.out _ e).trans (fr_set _ ib (k*4+2) (.int .i64 0)) fun _ _ e=>HLST.out _ e).trans (fr_set _ ib (k*4+3) (.slice none 0 0)) fun _ _ e=>HLST.out _ e),_,o4⟩,by simp [intOf];omega⟩
           · have hgek:¬ (k:Int)<(m:Int)+1:=by omega
             have HFe:=Hid.mk' HFk.out.1
             clear hxs HFk
             go_wp2
             exact ⟨⟨rfl,i+1,by go_num,by omega,HFe⟩,by simp [intOf];omega⟩
        · have hge:¬ (i:Int)<(C.length:Int):=by omega
          have HEND:Hid (Fr w wr (fun b=>BT G b∨BT S b∨BT C b)):=HFR.out.mono (fun _ _ h=>h.imp id (Or.imp id BT.take))
          rw [hlv] at d4
          clear hrow hxb hlv HFR
          go_wp2
          clear d4
          have HRW:Hid (∃ xs,wr.ownsRow base 60 7 (.slice (some ⟨g,0,none⟩) (N+1) c) (N+1) xs):=⟨_,own_fr HX.out.r HEND.out (fun b hb h=>by
           rcases h with h | h | h
           · obtain ⟨x,hx,e⟩:=h;exact own_ne HX.out.r (HX.out.gi x hx) (by decide) hb e
           · obtain ⟨x,hx,e⟩:=h;obtain ⟨⟨_,_,h1⟩,_⟩:=HX.out.si x hx;exact own_ne HX.out.r h1 (by decide) hb e
           · obtain ⟨x,hx,e⟩:=h;exact own_ne HX.out.r (HX.out.ci x hx).1 (by decide) hb e)⟩
          go_loopw [15] (fun vk wr=>∃ k:Nat,vk = .int .i64 k∧k≤N+1∧Hid (Fr w wr (fun b=>(BT G b∨BT S b∨BT C b)∨b=g)∧∃ xs,wr.ownsRow base 60 7 (.slice (some ⟨g,0,none⟩) (N+1) c) (N+1) xs)) (fun vk _=>N+1 - (intOf vk).toNat)
          case atStart=>exact ⟨0,rfl,by omega,HEND.out.mono fun _ _ h => .inl h,HRW.out⟩
          case round=>
           obtain ⟨k,rfl,hk,HFk⟩:=hrel
           have hk0:(0:Int)≤(k:Int):=by omega
           obtain ⟨_,xs,hxs⟩:=HFk.out
           have hxb:=keep_blk HFk.out.1 HX.out.x (fun h=>by
            rcases h with (h | h | h) | h
            · obtain ⟨x,hx,e⟩:=h;exact HX.out.x_ne (HX.out.gi x hx) (by decide) e
            · obtain ⟨x,hx,e⟩:=h;obtain ⟨⟨_,_,h1⟩,_⟩:=HX.out.si x hx;exact HX.out.x_ne h1 (by decide) e
            · obtain ⟨x,hx,e⟩:=h;exact HX.out.x_ne (HX.out.ci x hx).1 (by decide) e
            · exact HX.out.x_ne HX.out.r (by decide) (by rw [h];rfl))
           have d1:wr.cell? ⟨xb,1,none⟩=some (.slice (some ⟨g,0,none⟩) (N+1) c):=by rw [cell_of hxb];rfl
           by_cases hltk:k<N+1
           · have hltkI:(k:Int)<(N:Int)+1:=by omega
             obtain ⟨u0,z0⟩:=own_cell hxs (j:=k*7) (by omega)
             obtain ⟨u1,z1⟩:=own_cell hxs (j:=k*7+1) (by omega)
             obtain ⟨u2,z2⟩:=own_cell hxs (j:=k*7+2) (by omega)
             obtain ⟨u3,z3⟩:=own_cell hxs (j:=k*7+3) (by omega)
             obtain ⟨u4,z4⟩:=own_cell hxs (j:=k*7+4) (by omega)
             obtain ⟨u5,z5⟩:=own_cell hxs (j:=k*7+5) (by omega)
             obtain ⟨u6,z6⟩:=own_cell hxs (j:=k*7+6) (by omega)
             have zf:∀ j,wr.frozen? ⟨g,j,none⟩=false:=fun j=>World.ownsRow.frozenAt hxs j
             have HO0:=Hid.mk' hxs
             clear hxs hxb
             go_wp2
             have o0:=HO0.out
             have o1:=(World.ownsRow.stored o0 (k*7) (.bool false)).1
             have o2:=(World.ownsRow.stored o1 (k*7+1) (.slice none 0 0)).1
             have o3:=(World.ownsRow.stored o2 (k*7+2) (.slice none 0 0)).1
             have o4:=(World.ownsRow.stored o3 (k*7+3) (.slice none 0 0)).1
             have o5:=(World.ownsRow.stored o4 (k*7+4) (.bool false)).1
             have o6:=(World.ownsRow.stored o5 (k*7+5) (.slice none 0 0)).1
             have o7:=(World.ownsRow.stored o6 (k*7+6) (.int .i64 5)).1
             exact ⟨⟨k+1,by go_num,by omega,(((((((HFk.out.1.trans (fr_set _ g (k*7) (.bool false)) fun _ _ e => .inr e).trans (fr_set _ g (k*7+1) (.slice none 0 0)) fun _ _ e => .inr e).trans (fr_set _ g (k*7+2) (.slice none 0 0)) fun _ _ e => .inr e).trans (fr_set _ g (k*7+3) (.slice none 0 0)) fun _ _ e => .inr e).trans (fr_set _ g (k*7+4) (.bool false)) fun _ _ e => .inr e).trans (fr_set _ g (k*7+5) (.slice none 0 0)) fun _ _ e => .inr e).trans (fr_set _ g (k*7+6) (.int .i64 5)) fun _ _ e => .inr e),_,o7⟩,by simp [intOf];omega⟩
           · have hgek:¬ (k:Int)<(N:Int)+1:=by omega
             have HFe:Hid (Fr w wr (fun b=>(BT G b∨BT S b∨BT C b)∨b=g)):=HFk.out.1
             clear hxs hxb HFk
             go_wp2
             go_ret
             exact ⟨rfl,HFe.out⟩
end Go.Proofs
