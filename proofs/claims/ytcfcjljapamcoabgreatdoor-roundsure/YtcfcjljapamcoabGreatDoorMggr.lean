/-
  Several texts in one (Qa Qb Je Jg Ta Tb Tc Tf).
-/
import Derived.RangeFuncNested
import Derived.RangeFuncBound
import Derived.RangeFuncCalls
import Derived.RangeFuncLeaves
import Derived.Shelf.Abstract
import Derived.Shelf.RegionOpen
import Derived.WalkKit
import Derived.WalkSpells
import Derived.WalkLawsBesides
import Derived.OwnWalkIn
import Derived.TacticsInMore
import Derived.LoopNIn
import Derived.LoopIn
import Derived.BigQuiet
import Derived.RegionIn
import Derived.Deep.QuietTactic
import Derived.Deep.RegionWith
import Derived.Lib.OthersKept
import Derived.Maps.AppendAt
import Derived.Lib.SmallJoins
import Derived.Shelf.SlSortCmp.QuietGrown
import Derived.Test.YtcfcjljapamcoabGreatDoorWcr
import Derived.Test.YtcfcjljapamcoabGreatDoorMpfr
import Derived.Deep.Upon
import Derived.Laws.CopyRow
import Derived.Laws.IdiomCopy
import Derived.Test.YtcfcjljapamcoabGreatDoorMger
import Derived.Lib.RuneCountTail
import Derived.Test.YtcfcjljapamcoabGreatDoorTer
import Derived.Test.YtcfcjljapamcoabGreatDoorMgdr
namespace Go.Proofs
open Go.RowKit Go.Shelf
set_option maxRecDepth 100000
attribute [local go_sem] Oper.semAt_some
attribute [local go_sem ↓] Go.wp_at_zero Go.wp_at_succ
def WKB (w:World) (wb:Nat) (rv ov mv dv uv:Value) (room:Nat):Prop:=w.heap[wb]? = some (.cells #[rv,ov,mv,dv,uv,.int .i64 room] 100 (0,0))
def nowA (A:Option Addr) (c room:Nat):Option Addr:=if c=room then A else A.map fun x=>x.add room
theorem ir_now {w:World} {A:Option Addr} {n c room:Nat} {l:List Int} (h:IR w (.slice A n c) l) (hl:l.length=n) (hc:n≤c) (hr:room≤n):IR w (.slice (nowA A c room) (n - room) (c - room)) (l.drop room):=by
 unfold nowA
 split
 · rename_i h1
   have:l.drop room=[]:=List.drop_eq_nil_of_le (by omega)
   rw [this]
   exact ⟨A,c - room,by rw [show n - room=0 by omega];rfl,Nat.zero_le _,.inl rfl⟩
 · exact h.drop hl hr
set_option maxHeartbeats 4000000 in
theorem now_any {w:World} {wb:Nat} {rv ov mv dv:Value} {A:Option Addr} {n c room:Nat} (h:WKB w wb rv ov mv dv (.slice A n c) room) (hr:room≤n) (hc:n≤c) (hA:A=none→c=0) :
 Calls Tryz.prog 68 #[.pointer (some ⟨wb,4,none⟩)] w fun e w'=>w'=w.drew∧e = .returned (.slice (nowA A c room) (n - room) (c - room)):=by
 have e4:w.cell? ⟨wb,4,none⟩=some (.slice A n c):=by rw [cell_of h];rfl
 have e5:w.cell? ⟨wb,5,none⟩=some (.int .i64 room):=by rw [cell_of h];rfl
 have r0:(0:Int)≤(room:Int):=by omega
 have r1:(room:Int)≤(n:Int):=by omega
 have r2:(n:Int)≤(c:Int):=by omega
 cases A with
 | none=>
  obtain rfl:=hA rfl
  obtain rfl:n=0:=by omega
  obtain rfl:room=0:=by omega
  go_enter Tryz.func68,Tryz.ntmps68
  go_wp2
  go_region
  go_wp2
  go_ret
  all_goals simp [nowA]
 | some x=>
  go_enter Tryz.func68,Tryz.ntmps68
  go_wp2
  go_region
  go_wp2
  · go_ret
    all_goals simp [nowA]
  · go_ret
    all_goals simp [nowA,h]
theorem IR.fr {w w':World} {v:Value} {l:List Int} {B:Nat→Prop} (h:IR w v l) (hf:Fr w w' B) (hB:∀ b,v.ownBlock=some b→¬ B b):IR w' v l:=by
 obtain ⟨A,c,rfl,hc,hr⟩:=h
 refine ⟨A,c,rfl,hc,?_⟩
 rcases hr with hr | ⟨g,o,rfl,hd⟩
 · exact .inl hr
 · by_cases h0:l=[]
   · exact .inl h0
   · refine .inr ⟨g,o,rfl,fun j hj => ?_⟩
     have h1:=hd j hj
     have hg:g<w.heap.size:=by
      have:=h1
      unfold World.cell? at this
      by_cases hg:g<w.heap.size
      · exact hg
      · simp [Array.getElem?_eq_none (by omega:w.heap.size≤g)] at this
     have:=hf.block g hg (hB g rfl)
     rw [←h1]
     unfold World.cell?
     simp only [this]
theorem copy_now {w:World} {base:Nat} {A:Option Addr} {n c room:Nat} {uu bl:List Int} {bv:Value} (hO:OwnI w base (.slice A n c) uu) (hb:IR w bv bl) (hl:uu.length=n) (hn:room+bl.length≤n) (hc:n≤c) :
 ∃ w2,(Builtin.copy_ #[25,25] 3 #[.slice (nowA A c room) (n - room) (c - room),bv]).run Tryz.prog w = .ok (.int .i64 bl.length) w2∧OwnI w2 base (.slice A n c) (uu.take room++bl++uu.drop (room+bl.length))∧Fr w w2 fun k=>(Value.slice A n c).ownBlock=some k:=by
 obtain ⟨sA,sc,rfl,_,hr⟩:=hb
 by_cases h0:bl=[]
 · subst h0
   refine ⟨w,run_copy_none (P:=Tryz.prog) w 25 25 3 3 _ _ _ _ 0 sc Tryz.underlying25 size3 (by simp),?_,Fr.refl _ _⟩
   simpa using hO
 · obtain ⟨gs,os,rfl,hcell⟩:=hr.resolve_left h0
   have hlen:0<bl.length:=List.length_pos_iff.2 h0
   rcases hO.2 with ⟨_,h2⟩ | ⟨g,cap,cur,hv,hbg,hg,h1,h2,h3,h4⟩
   · omega
   · injection hv with e1 e2 e3
     subst e1 e3
     rw [hl] at h1 h4
     have hna:nowA (some ⟨g,0,none⟩) c room=some ⟨g,room,none⟩:=by
      unfold nowA
      rw [if_neg (by omega)]
      simp only [Option.map_some,Addr.add]
      split <;> simp_all
     have hrun:=run_copy_row (P:=Tryz.prog) w 25 25 3 3 g room (n - room) (c - room) ⟨gs,os,none⟩ bl.length sc cur 3 (ints bl) Tryz.underlying25 size3 hg (by rw [ints_length];exact (Nat.min_eq_left (by omega)).symm) (fun j u hj=>by
      simp only [ints,List.getElem?_map,Option.map_eq_some_iff] at hj
      obtain ⟨x,hx,rfl⟩:=hj
      obtain ⟨hj1,hj2⟩:=List.getElem?_eq_some_iff.1 hx
      have:=hcell j hj1
      rw [hj2] at this
      unfold Addr.add
      by_cases h:j=0
      · subst h;simpa using this
      · simpa [h] using this) (by rw [ints_length];omega) (ints_one _)
     rw [hna]
     rw [ints_length] at hrun
     refine ⟨_,hrun,?_,?_⟩
     · have hlen2:(uu.take room++bl++uu.drop (room+bl.length)).length=n:=by simp;omega
       unfold OwnI
       rw [hlen2]
       refine ⟨by rw [ints_length,hlen2];omega,.inr ⟨g,c,_,rfl,hbg,setRow_heap w g _ _ 3 _ hg,hc,h2,?_,?_⟩⟩
       · have:cur.toList.length=c:=by simp;omega
         simp [ints_length];omega
       · have hcl:cur.toList.length=c:=by simp;omega
         rw [Nat.mul_one] at h4
         rw [←hl] at hn hc
         simp only [Nat.mul_one]
         have e1:cur.toList.take room=ints (uu.take room):=by
          rw [show ints (uu.take room)=(ints uu).take room by simp [ints,List.map_take],←h4,List.take_take,Nat.min_eq_left (by omega)]
         have e2:(cur.toList.drop (room+bl.length)).take (n - (room+bl.length))=ints (uu.drop (room+bl.length)):=by
          rw [show ints (uu.drop (room+bl.length))=(ints uu).drop (room+bl.length) by simp [ints,List.map_drop],←h4,List.drop_take]
         have l1:(ints (uu.take room)).length=room:=by rw [ints_length];simp;omega
         have l2:(ints bl).length=bl.length:=ints_length _
         rw [e1,ints_append,ints_append,←e2,List.append_assoc,List.append_assoc,List.take_append,List.take_append,l1,l2,List.take_of_length_le (by omega),List.take_of_length_le (l:=ints bl) (by omega),show n - room - bl.length=n - (room+bl.length) by omega]
     · exact ⟨rfl,rfl,rfl,by simp [World.setRow],fun k _ hk=>setRow_other w g k _ fun e=>hk (by rw [e];rfl)⟩
theorem WKB.room {w:World} {wb:Nat} {rv ov mv dv uv:Value} {room:Nat} (h:WKB w wb rv ov mv dv uv room) (z:Int) (r:Nat) (hz:z=r):WKB (w.setCell ⟨wb,5,none⟩ (.int .i64 z)) wb rv ov mv dv uv r:=by
 subst hz;unfold WKB;rw [set_heap h];rfl
theorem WKB.units {w:World} {wb:Nat} {rv ov mv dv uv:Value} {room:Nat} (h:WKB w wb rv ov mv dv uv room) (u:Value):WKB (w.setCell ⟨wb,4,none⟩ u) wb rv ov mv dv u room:=by
 unfold WKB;rw [set_heap h];rfl
theorem WKB.fr {w w':World} {B:Nat→Prop} {wb:Nat} {rv ov mv dv uv:Value} {room:Nat} (h:WKB w wb rv ov mv dv uv room) (hf:Fr w w' B) (hB:¬ B wb):WKB w' wb rv ov mv dv uv room:=(hf.block wb (blk_lt h) hB).trans h
theorem WKB.ne {w:World} {wb base:Nat} {rv ov mv dv uv v:Value} {room:Nat} {l:List Int} (h:WKB w wb rv ov mv dv uv room) (hO:OwnI w base v l) {b:Nat} (hb:v.ownBlock=some b):b≠wb:=fun e=>by
 obtain ⟨cur,hc⟩:=own_at hO hb
 subst e
 rw [h] at hc
 injection hc with hc
 injection hc with _ h2 _
 exact absurd h2 (by decide)
theorem make_big (n:Nat) (hn:n≤1000000000):∀ W:World,(Instr.makeSlice 25 (.int .i64 n) (.int .i64 n)).run Tryz.prog W = .ok (.slice (some ⟨W.heap.size,0,none⟩) n n) (W.alloc (.cells (ints (List.replicate n 0)).toArray 3)):=by
 obtain ⟨i0,hi,hz0,hz1,hz2⟩:=info_parts iinfo3
 intro W
 have h:=run_make (P:=Tryz.prog) W 25 3 i0 (.int .i64 0) Tryz.underlying25 hi hz0 .i64 .i64 (n:Int) (n:Int) (by omega) (Int.le_refl _) (by rw [hz2];omega) (by omega)
 have hz:madeCells (Value.int .i64 0).cells n=(ints (List.replicate n 0)).toArray:=by
  apply Array.ext'
  apply List.ext_getElem
  · simp [size_madeCells,ints]
  · intro i h1 h2
    simp [madeCells,ints,Value.cells,Nat.mod_one]
 rw [h,show (n:Int).toNat=n by omega,hz1,Nat.mul_one,hz]
theorem ir_zeros {w:World} {g n:Nat} (h:w.heap[g]? = some (.cells (ints (List.replicate n 0)).toArray 3 (0,0))):IR w (.slice (some ⟨g,0,none⟩) n n) (List.replicate n 0):=by
 refine ⟨_,n,by rw [List.length_replicate],by simp,.inr ⟨g,0,rfl,fun j hj => ?_⟩⟩
 rw [cell_of h]
 simp at hj
 simp [ints,hj]
structure SwQ (w w':World) (base wb:Nat) (rv ov mv dv uv:Value) (n R:Nat) (uu bl:List Int):Prop where
 ex:∃ A c m room uu',WKB w' wb rv ov mv dv (.slice A m c) room∧OwnI w' base (.slice A m c) uu'∧uu'.length=m∧room≤m∧uu'.drop room=bl++uu.drop R∧(m=n∨R<bl.length∧m=bl.length+n+(n - R))∧(A.map (·.block)=uv.ownBlock∨∃ g,A=some ⟨g,0,none⟩∧w.heap.size≤g)
 fr:Fr w w' fun k=>k=wb∨uv.ownBlock=some k
set_option maxHeartbeats 8000000 in
theorem swap_any {w:World} {wb base:Nat} {rv ov mv dv bv:Value} {A:Option Addr} {n c room took:Nat} {uu bl:List Int} (h:WKB w wb rv ov mv dv (.slice A n c) room) (hO:OwnI w base (.slice A n c) uu) (hl:uu.length=n) (hr:room+took≤n) (hn:n≤100000000) (hb:IR w bv bl) (hbw:bv.ownBlock≠some wb) (hbl:bl.length≤1000000) (hbase:base≤w.heap.size) :
 Calls Tryz.prog 96 #[.pointer (some ⟨wb,4,none⟩),.int .i64 took,bv] w fun e w'=>e = .returned (.tuple #[])∧SwQ w w' base wb rv ov mv dv (.slice A n c) n (room+took) uu bl:=by
 have HW:Hid (WKB w wb rv ov mv dv (.slice A n c) room):=h
 have HO:Hid (OwnI w base (.slice A n c) uu):=hO
 have HB:Hid (IR w bv bl):=hb
 have HL:Hid (uu.length=n):=hl
 obtain ⟨bA,bc,hbv,_,_⟩:=hb
 obtain ⟨k,hk⟩:∃ k,bl.length=k:=⟨_,rfl⟩
 have HK:Hid (bl.length=k):=hk
 rw [hk] at hbv hbl
 subst hbv
 have e5:w.cell? ⟨wb,5,none⟩=some (.int .i64 room):=by rw [cell_of h];rfl
 have f5:w.frozen? ⟨wb,5,none⟩=false:=free_of h
 have r0:(0:Int)≤(room:Int):=by omega
 have r1:(room:Int)+(took:Int)≤(n:Int):=by omega
 have r2:(n:Int)≤100000000:=by omega
 have r3:(0:Int)≤(took:Int):=by omega
 have r4:(k:Int)≤1000000:=by omega
 have r5:(0:Int)≤(k:Int):=by omega
 have hnc:n≤c∧(A=none→c=0):=by
  rcases hO.2 with ⟨e,_⟩ | ⟨g,cap,cur,e,_,_,h1,_⟩
  · injection e with e1 e2 e3
    exact ⟨by omega,fun _=>e3⟩
  · injection e with e1 e2 e3
    rw [hl] at h1
    exact ⟨by omega,fun e=>by rw [e] at e1;cases e1⟩
 have HNC:Hid (n≤c∧(A=none→c=0)):=hnc
 by_cases hR:room+took<k
 · have hd:decide ((room:Int)+(took:Int)<(k:Int))=true:=decide_eq_true (by omega)
   have H1:=h.room ((room:Int)+(took:Int)) (room+took) (by omega)
   have e51:(w.setCell ⟨wb,5,none⟩ (.int .i64 ((room:Int)+(took:Int)))).cell? ⟨wb,5,none⟩=some (.int .i64 ((room:Int)+(took:Int))):=by rw [cell_of H1];simp
   have e41:(w.setCell ⟨wb,5,none⟩ (.int .i64 ((room:Int)+(took:Int)))).cell? ⟨wb,4,none⟩=some (.slice A n c):=by rw [cell_of H1];rfl
   have HN:Hid (∀ W,WKB W wb rv ov mv dv (.slice A n c) (room+took)→Calls Tryz.prog 68 #[.pointer (some ⟨wb,4,none⟩)] W fun e w'=>w'=W.drew∧e = .returned (.slice (nowA A c (room+took)) (n - (room+took)) (c - (room+took)))):=fun W hW=>now_any hW (by omega) hnc.1 hnc.2
   have HH1:=Hid.mk' H1
   have hmk:=make_big (k+n) (by omega)
   rw [show ((k+n:Nat):Int)=(k:Int)+(n:Int) by omega] at hmk
   obtain ⟨w1,hw1⟩:∃ w1,w1=w.setCell ⟨wb,5,none⟩ (.int .i64 ((room:Int)+(took:Int))):=⟨_,rfl⟩
   have hs1:w1.heap.size=w.heap.size:=by rw [hw1];simp [World.setCell]
   have hF1:Fr w w1 fun k=>k=wb:=by rw [hw1];exact fr_set _ _ _ _
   have hIR:IR w1 (.slice (nowA A c (room+took)) (n - (room+took)) (c - (room+took))) (uu.drop (room+took)):=ir_now (OwnI.ir (own_fr hO hF1 fun b hb e=>h.ne hO hb e)) hl hnc.1 hr
   have HF1:=Hid.mk' hF1
   have HC:Hid (∀ W,Grown w1 W→W.heap=((w1.alloc (.cells (ints (List.replicate (k+n) 0)).toArray 3)).alloc (.cells #[.slice (some ⟨w.heap.size,0,none⟩) (k+n) (k+n),.slice (nowA A c (room+took)) (n - (room+took)) (c - (room+took))] 25)).heap →
    Calls Tryz.prog 117 #[.slice (some ⟨w.heap.size+1,0,none⟩) 2 2] W fun e w'=>∃ g' c',e = .returned (.slice (some ⟨g',0,none⟩) (k+n+(n - (room+took))) c')∧w.heap.size≤g'∧OwnI w' w.heap.size (.slice (some ⟨g',0,none⟩) (k+n+(n - (room+took))) c') (List.replicate (k+n) 0++uu.drop (room+took))∧Fr w1 w' fun _=>False):=by
    intro W hG hZ0
    have hZ1:W.heap[w.heap.size+1]? = some (.cells #[.slice (some ⟨w.heap.size,0,none⟩) (k+n) (k+n),.slice (nowA A c (room+took)) (n - (room+took)) (c - (room+took))] 25 (0,0)):=by
     rw [hZ0,←hs1,←World.size_alloc w1 (.cells (ints (List.replicate (k+n) 0)).toArray 3)]
     exact heap_alloc_new _ _
    have hZ:W.heap[w.heap.size]? = some (.cells (ints (List.replicate (k+n) 0)).toArray 3 (0,0)):=by
     rw [hZ0,←hs1]
     exact (((Grown.refl _).alloc _).below.block _ (blk_lt (heap_alloc_new w1 _))).trans (heap_alloc_new w1 _)
    have q1:W.cell? ⟨w.heap.size+1,0,none⟩=some (.slice (some ⟨w.heap.size,0,none⟩) (k+n) (k+n)):=by rw [cell_of hZ1];rfl
    have q2:W.cell? ⟨w.heap.size+1,1,none⟩=some (.slice (nowA A c (room+took)) (n - (room+took)) (c - (room+took))):=by rw [cell_of hZ1];rfl
    refine (concat_any _ _ _ _ _ W q1 q2 (ir_zeros hZ) (hIR.grown hG) (by simp;omega) (by simp;omega)).mono ?_
    rintro e w' ⟨v',rfl,h1,h2⟩
    have hlen:(List.replicate (k+n) (0:Int)++uu.drop (room+took)).length=k+n+(n - (room+took)):=by simp;omega
    have hF:Fr w1 w' fun _=>False:=(fr_grown hG _).trans (fr_below h2 (Nat.le_refl _) _) fun _ _ e=>e
    rcases h1.2 with ⟨_,h3⟩ | ⟨g,cap,cur,e,h3,h4⟩
    · rw [hlen] at h3;omega
    · have hg:w.heap.size≤g:=by have:=hG.size;omega
      have h5:=h1.le (base':=w.heap.size) (by have:=hG.size;omega)
      subst e
      rw [hlen] at h5 ⊢
      exact ⟨g,cap,rfl,hg,h5,hF⟩
   rw [hw1] at HC
   clear hw1 hs1 hF1 hIR h hO hl hk H1 hnc
   go_enter Tryz.func96,Tryz.ntmps96
   go_wp2
   go_region_with (first
    | (go_at_call 68;go_must (refine (HN.out _ (HH1.out.fr (fr_grown (by (repeat (first | exact Grown.refl _ | refine Grown.alloc ?_ _ | refine Grown.drew ?_ | refine Grown.drewN ?_ _ | refine Grown.quiet ?_ _ _))) fun _=>False) id)).mono ?_;rintro e w2 ⟨rfl,rfl⟩))
    | (go_at_call 117;go_must (refine (HC.out _ ?_ ?_).mono ?_;(repeat (first | exact Grown.refl _ | refine Grown.alloc ?_ _ | refine Grown.drew ?_ | refine Grown.drewN ?_ _ | refine Grown.quiet ?_ _ _));rfl;rintro e w3 ⟨g',c',rfl,hg',hO3,hF3⟩;have HG':=Hid.mk' hg';have HO3:=Hid.mk' hO3;have HF3:=Hid.mk' hF3;have HH3:=Hid.mk' (HH1.out.fr hF3 id);have e43:w3.cell? ⟨wb,4,none⟩=some (.slice A n c):=(cell_of HH3.out).trans rfl;have f43:w3.frozen? ⟨wb,4,none⟩=false:=free_of HH3.out;clear hg' hO3 hF3)))
   all_goals
    obtain ⟨m,hm⟩:∃ m,k+n+(n - (room+took))=m:=⟨_,rfl⟩
    have HM:=Hid.mk' hm
    rw [hm] at HO3 ⊢
    have mI:(m:Int)≤1000000000:=by omega
    clear hm
    have H3:=HH3.out.units (.slice (some ⟨g',0,none⟩) m c')
    have H4:=H3.room ((k:Int)+(n:Int)) (k+n) (by omega)
    have H5:=H4.room ((k:Int)+(n:Int) - (k:Int)) n (by omega)
    have e53:(w3.setCell ⟨wb,4,none⟩ (.slice (some ⟨g',0,none⟩) m c')).cell? ⟨wb,5,none⟩=some (.int .i64 ((room+took:Nat):Int)):=(cell_of H3).trans rfl
    have f53:=free_of (j:=5) H3
    have e54:((w3.setCell ⟨wb,4,none⟩ (.slice (some ⟨g',0,none⟩) m c')).setCell ⟨wb,5,none⟩ (.int .i64 ((k:Int)+(n:Int)))).cell? ⟨wb,5,none⟩=some (.int .i64 ((k:Int)+(n:Int))):=(cell_of H4).trans (by simp)
    have f54:=free_of (j:=5) H4
    have HH5:=Hid.mk' H5
    have hmc:m≤c':=by
     rcases HO3.out.2 with ⟨e,_⟩ | ⟨g,cap,cur,e,_,_,h1,_⟩
     · cases e
     · injection e with e1 e2 e3
       rw [←e2] at h1
       omega
    have HL3:Hid ((List.replicate (k+n) (0:Int)++uu.drop (room+took)).length=m):=by
     have:=HL.out
     have:=HM.out
     show _=_
     simp;omega
    have hF5:Fr w3 ((((w3.setCell ⟨wb,4,none⟩ (.slice (some ⟨g',0,none⟩) m c')).setCell ⟨wb,5,none⟩ (.int .i64 ((k:Int)+(n:Int)))).setCell ⟨wb,5,none⟩ (.int .i64 ((k:Int)+(n:Int) - (k:Int)))).drew) fun k=>k=wb:=(((fr_set _ _ _ _).trans (fr_set _ _ _ _) fun _ _ e=>e).trans (fr_set _ _ _ _) fun _ _ e=>e).trans (fr_grown (Grown.refl _).drew _) fun _ _ e=>e
    have HF5:=Hid.mk' hF5
    have hF03:Fr w w3 fun k=>k=wb:=(fr_set _ _ _ _).trans (HF3.out.mono fun _ _ e=>e.elim) fun _ _ e=>e
    have HF03:=Hid.mk' hF03
    have HO5:=Hid.mk' (own_fr HO3.out hF5 fun b hb e=>HH3.out.ne HO3.out hb e)
    have HB5:=Hid.mk' ((HB.out.fr hF03 fun b hb e=>hbw (by rw [hb,e])).fr hF5 fun b hb e=>hbw (by rw [hb,e]))
    obtain ⟨w6,hrun,hO6,hF6⟩:=copy_now (room:=n) HO5.out HB5.out HL3.out (by have:=HK.out;have:=HM.out;omega) hmc
    rw [HK.out] at hrun
    have HR6:=Hid.mk' hrun
    have HO6:=Hid.mk' hO6
    have HF6:=Hid.mk' hF6
    have HN5:=Hid.mk' (now_any H5 (by have:=HM.out;omega) hmc (fun e=>by cases e))
    have HMC:=Hid.mk' hmc
    clear H3 H4 H5 hF5 hF03 hrun hO6 hF6 hmc
    go_wp2_with (
     (go_at_call 68
      refine HN5.out.mono ?_
      rintro e w2 ⟨rfl,rfl⟩))
    rw [HR6.out]
    go_wp2
    go_end0
    have hk:=HK.out
    have hl:=HL.out
    have hm:=HM.out
    have hl3:=HL3.out
    have hgne:∀ b,(Value.slice (some ⟨g',0,none⟩) m c').ownBlock=some b→b≠wb:=fun b hb=>HH3.out.ne HO3.out hb
    have hg'w:w.heap.size≤g':=HG'.out
    refine ⟨rfl,⟨some ⟨g',0,none⟩,c',m,n,_,?_,HO6.out.le hbase,by rw [List.length_append,List.length_append,List.length_take,List.length_drop,hl3];omega,by omega,?_,.inr ⟨by omega,by omega⟩,.inr ⟨g',rfl,hg'w⟩⟩,?_⟩
    · have H6:WKB _ wb rv ov mv dv (.slice (some ⟨g',0,none⟩) m c') n:=HH5.out.fr (fr_grown (Grown.refl _).drew fun _=>False) id
      exact H6.fr HF6.out fun e=>hgne wb e rfl
    · rw [hk,List.append_assoc,List.drop_append_of_le_length (by rw [List.length_take,hl3];omega),List.drop_eq_nil_of_le (by rw [List.length_take];omega),List.nil_append,List.drop_append_of_le_length (by simp;omega),List.drop_eq_nil_of_le (by simp;omega),List.nil_append]
    · refine ((HF03.out.mono fun _ _ e => .inl e).trans HF5.out fun _ _ e => .inl e).trans HF6.out fun i hi e => ?_
      injection e with e
      have e:g'=i:=e
      omega
 · have hd:decide ((room:Int)+(took:Int)<(k:Int))=false:=decide_eq_false (by omega)
   have H1:=h.room ((room:Int)+(took:Int)) (room+took) (by omega)
   have H2:=H1.room ((room:Int)+(took:Int) - (k:Int)) (room+took - k) (by omega)
   have e51:(w.setCell ⟨wb,5,none⟩ (.int .i64 ((room:Int)+(took:Int)))).cell? ⟨wb,5,none⟩=some (.int .i64 ((room:Int)+(took:Int))):=by rw [cell_of H1];simp
   have f51:(w.setCell ⟨wb,5,none⟩ (.int .i64 ((room:Int)+(took:Int)))).frozen? ⟨wb,5,none⟩=false:=free_of H1
   have HN:Hid (∀ W,WKB W wb rv ov mv dv (.slice A n c) (room+took - k)→Calls Tryz.prog 68 #[.pointer (some ⟨wb,4,none⟩)] W fun e w'=>w'=W.drew∧e = .returned (.slice (nowA A c (room+took - k)) (n - (room+took - k)) (c - (room+took - k)))):=fun W hW=>now_any hW (by omega) hnc.1 hnc.2
   have hF2:Fr w (((w.setCell ⟨wb,5,none⟩ (.int .i64 ((room:Int)+(took:Int)))).setCell ⟨wb,5,none⟩ (.int .i64 ((room:Int)+(took:Int) - (k:Int)))).drew) fun k=>k=wb:=((fr_set _ _ _ _).trans (fr_set _ _ _ _) fun _ _ e=>e).trans (fr_grown (Grown.refl _).drew _) fun _ _ e=>e
   have HF2:=Hid.mk' hF2
   have HO2:=Hid.mk' (own_fr hO hF2 fun b hb e=>h.ne hO hb e)
   have HB2:=Hid.mk' (HB.out.fr hF2 fun b hb e=>hbw (by rw [hb,e]))
   have HH2:=Hid.mk' H2
   obtain ⟨w3,hrun,hO3,hF3⟩:=copy_now (room:=room+took - k) HO2.out HB2.out hl (by omega) hnc.1
   rw [hk] at hrun
   have HR3:=Hid.mk' hrun
   have HO3:=Hid.mk' hO3
   have HF3:=Hid.mk' hF3
   clear h hO hl hk H1 H2 hF2 hnc hrun hO3 hF3
   go_enter Tryz.func96,Tryz.ntmps96
   go_wp2_with (
    (go_at_call 68
     refine (HN.out _ HH2.out).mono ?_
     rintro e w2 ⟨rfl,rfl⟩))
   rw [HR3.out]
   go_wp2
   go_end0
   have hk:=HK.out
   have hl:=HL.out
   have hne:∀ b,(Value.slice A n c).ownBlock=some b→b≠wb:=fun b hb=>HW.out.ne HO.out hb
   refine ⟨rfl,⟨A,c,n,room+took - k,_,?_,HO3.out,by simp;omega,by omega,?_,.inl rfl,.inl (by cases A <;> rfl)⟩,(HF2.out.mono fun _ _ e => .inl e).trans HF3.out fun _ _ e => .inr e⟩
   · have H3:WKB _ wb rv ov mv dv (.slice A n c) (room+took - k):=HH2.out.fr (fr_grown (Grown.refl _).drew fun _=>False) id
     exact H3.fr HF3.out fun e=>hne wb e rfl
   · rw [hk,show room+took - k+k=room+took by omega,List.append_assoc,List.drop_append_of_le_length (by simp;omega),List.drop_eq_nil_of_le (by simp;omega),List.nil_append]
theorem uAt_tail (s:ByteArray) (p:Nat) (hp:p<s.size):uAt (s.extract p s.size) 0=uAt s p:=by
 have h1:Utf8.decode (s.extract p s.size) 0=Utf8.decode s p:=Lib.tail_decode s p 0
 have h2:((s.extract p s.size).data.toList.drop 0)=s.data.toList.drop p:=by rw [Lib.extract_to_end];rfl
 have h3:(s.extract p s.size).get! 0=s.get! p:=get_ext s p s.size 0 (by omega) (Nat.le_refl _)
 unfold uAt strayAt
 rw [h1,h2,h3]
theorem firstU_tail (s:ByteArray) (p:Nat) (hp:p<s.size):(firstU (s.extract p s.size)).1=(uAt s p:Int):=by
 have hz:(s.extract p s.size).size=(s.size - p - 1)+1:=by simp [ByteArray.size_extract];omega
 unfold firstU units
 rw [hz,unitsN_step _ _ 0 (by omega),uAt_tail s p hp]
theorem uAt_plain (s:ByteArray) (p:Nat) (h:¬ (Utf8.decode s p).1=65533):uAt s p=(Utf8.decode s p).1:=uAt_rune (by unfold strayAt;simp [h])
theorem intsU_snoc (l:List (Nat × Nat)) (x:Nat × Nat):intsU (l++[x])=intsU l++[(x.2:Int)]:=by simp [intsU]
set_option maxHeartbeats 4000000 in
theorem units_any (s:ByteArray) (w:World) (hs:s.size≤1000000000):Calls Tryz.prog 67 #[.string s] w fun e w'=>∃ v,e = .returned v∧OwnI w' w.heap.size v (intsU (units s))∧Below w.heap.size w w':=by
 have hsI:(s.size:Int)≤1000000000:=by omega
 obtain ⟨bx,hbx⟩:∃ bx,w.heap.size=bx:=⟨_,rfl⟩
 have HBX:=Hid.mk' hbx
 go_enter Tryz.func67,Tryz.ntmps67
 go_wp2
 skip
 clear hbx
 go_loopw [3,4,5,6] (fun v3 _ _ _ wr=>∃ (done:List (Nat × Nat)) (p k:Nat),wr.heap[bx]? = some (.stringIter s p)∧Hid (units s=done++unitsN s k p)∧s.size≤p+k∧Hid (OwnI wr (bx+1) v3 (intsU done)∧Below bx w wr)) (fun _ _ _ _ wr=>s.size - wr.iterPos bx)
 case atStart=>
  refine ⟨[],0,s.size,?_,rfl,by omega,OwnI.nil _ _,?_⟩
  · have:=World.iter_heap w s 0;rw [HBX.out] at this;exact this
  · have:=(Below.refl w.heap.size w).alloc (Nat.le_refl _) (.stringIter s 0);rw [HBX.out] at this;exact this
 case round=>
  obtain ⟨done,p,k,hit,HU,hk,HO⟩:=hrel
  obtain ⟨x1,x2,x3,hsl⟩:=HO.out.1.ir.sl
  subst hsl
  have hz:bx<wr.heap.size:=blk_lt hit
  by_cases hp:p<s.size
  · obtain ⟨k,rfl⟩:∃ j,k=j+1:=⟨k - 1,by omega⟩
    have hnx:∀ ty,(Instr.next (.pointer (some ⟨bx,0,none⟩)) true ty).run Tryz.prog wr=_:=fun ty=>Lib.run_next_any_at wr bx s p ty hit hp
    have hit2:=Lib.iterAt_heap wr bx s p (p+(Utf8.decode s p).2) hit
    have hpos:=uw_pos s p
    have HM:Hid (∀ W:World,W.heap[bx]? = some (.stringIter s (p+uw s p))→s.size - W.iterPos bx<s.size - wr.iterPos bx):=fun W hW=>by rw [iterPos_of hit,iterPos_of hW];omega
    have HU2:Hid (units s=(done++[(p,uAt s p)])++unitsN s k (p+uw s p)):=by
     show units s=(done++[(p,uAt s p)])++unitsN s k (p+uw s p)
     rw [HU.out,unitsN_step s k p hp];simp
    have hdl:(intsU done).length+1≤8796093022208:=by
     have h1:=units_len s
     rw [HU.out,List.length_append] at h1
     rw [intsU_length];omega
    obtain ⟨W1,hW1⟩:∃ W1,W1=wr.iterAt bx s (p+(Utf8.decode s p).2):=⟨_,rfl⟩
    have hO1:OwnI W1 (bx+1) (.slice x1 x2 x3) (intsU done):=by
     refine own_fr (B:=fun k=>k=bx) HO.out.1 ⟨by rw [hW1];rfl,by rw [hW1];rfl,by rw [hW1];rfl,by rw [hW1,Lib.iterAt_size];exact Nat.le_refl _,fun j _ hj=>by rw [hW1];exact Lib.iterAt_other wr bx j s _ hj⟩ fun b hb e => ?_
     have:=(World.ownsRow.lt HO.out.1 b hb).1
     omega
    have hB1:Below bx w W1:=by rw [hW1];exact Lib.below_iterAt HO.out.2 (Nat.le_refl _) s _
    have hz1:bx+1≤W1.heap.size:=by rw [hW1,Lib.iterAt_size];omega
    rw [←hW1] at hit2 hnx
    have HN:Hid (∀ W2,Below W1.heap.size W1 W2→∀ ob,OwnI (W2.alloc ob) (bx+1) (.slice x1 x2 x3) (intsU done)∧bx+1≤(W2.alloc ob).heap.size∧Below (bx+1) W1 (W2.alloc ob)):=fun W2 h2 ob=>by
     have g:=(Grown.refl W2).alloc ob
     have h3:Below W1.heap.size W1 (W2.alloc ob):=h2.trans (g.below.mono h2.size)
     exact ⟨hO1.below h3 (Nat.le_refl _),by have:=h3.size;omega,h3.mono hz1⟩
    have HE:Hid (∀ v3 w3,OwnI w3 (bx+1) v3 (intsU done++[(uAt s p:Int)])→Below (bx+1) W1 w3→w3.heap[bx]? = some (.stringIter s (p+uw s p))∧Hid (OwnI w3 (bx+1) v3 (intsU (done++[(p,uAt s p)]))∧Below bx w w3)):=fun v3 w3 h1 h2=>by
     refine ⟨(h2.block bx (by omega)).trans hit2,?_⟩
     show _∧_
     rw [intsU_snoc]
     exact ⟨h1,hB1.trans (h2.mono (by omega))⟩
    have r1:((Utf8.decode s p).1:Int)<1114112:=by have:=dec_lt s p;omega
    have pI:(p:Int)<(s.size:Int):=by omega
    by_cases hr:(Utf8.decode s p).1=65533
    · have HF:Hid (∀ W,Calls Tryz.prog 25 #[.string (s.extract p s.size)] W fun e w'=>∃ z,e = .returned (.tuple #[.int .i64 (uAt s p:Int),.int .i64 z])∧Below W.heap.size W w'):=fun W=>by
       refine (first_any (s.extract p s.size) W (by have:(s.extract p s.size).size=s.size - p:=by simp [ByteArray.size_extract]
                                                    unfold maxLen;omega)).mono ?_
       rintro e w' ⟨rfl,hb⟩
       exact ⟨_,by rw [firstU_tail s p hp],hb⟩
      rw [hr] at hnx
      clear hW1 hO1 hB1 hit hit2 HO HU hpos hr r1
      go_wp2_with (first
       | (go_at_call 25
          refine (HF.out _).mono ?_
          rintro e w2 ⟨z,rfl,hb2⟩
          have HB2:=Hid.mk' (HN.out w2 hb2)
          clear hb2)
       | (at_builtin;go_must
        (refine push_I rfl _ _ 25 rfl Tryz.underlying25 (bx+1) _ (intsU done) rfl (HB2.out _).1 _ _ (uAt s p:Int) rfl (by (first | (simp;done) | exact new_cell _ _ _ _ rfl)) hdl (HB2.out _).2.1 ?_
         intro v3 w3 hO3 hB3
         have HZ3:=Hid.mk' (HE.out v3 w3 hO3 ((HB2.out _).2.2.trans hB3))
         clear hO3 hB3)))
      exact ⟨⟨_,_,k,HZ3.out.1,HU2,by have:=uw_pos s p;omega,HZ3.out.2⟩,HM.out _ HZ3.out.1⟩
    · have HP:Hid (uAt s p=(Utf8.decode s p).1):=uAt_plain s p hr
      have HB2:=Hid.mk' (HN.out W1 (Below.refl _ _))
      rw [HP.out] at HE HU2
      obtain ⟨r,hrr⟩:∃ r,(Utf8.decode s p).1=r:=⟨_,rfl⟩
      have HR:=Hid.mk' hrr
      rw [hrr] at hnx HE HU2 hr r1
      have r2:¬ (r:Int)=65533:=by omega
      have r3:((r:Int) == 65533)=false:=by simpa using r2
      clear hW1 hO1 hB1 hit hit2 HO HU hpos hr hrr
      go_wp2_with (at_builtin;go_must
            (refine push_I rfl _ _ 25 rfl Tryz.underlying25 (bx+1) _ (intsU done) rfl (HB2.out _).1 _ _ (r:Int) rfl (by (first | (simp;done) | exact new_cell _ _ _ _ rfl)) hdl (HB2.out _).2.1 ?_
             intro v3 w3 hO3 hB3
             have HZ3:=Hid.mk' (HE.out v3 w3 hO3 ((HB2.out _).2.2.trans hB3))
             clear hO3 hB3))
      exact ⟨⟨_,_,k,HZ3.out.1,HU2,by have:=uw_pos s p;omega,HZ3.out.2⟩,HM.out _ HZ3.out.1⟩
  · have hnx:∀ ty,(Instr.next (.pointer (some ⟨bx,0,none⟩)) true ty).run Tryz.prog wr=_:=fun ty=>Lib.run_next_end_at wr bx s p ty hit hp
    have HD:Hid (units s=done):=by
     show _=_
     rw [HU.out,unitsN_end s k p hp,List.append_nil]
    clear hit HU
    go_wp2
    go_ret
    refine ⟨_,rfl,?_,?_⟩
    · rw [HD.out];exact HO.out.1.le (by rw [HBX.out];omega)
    · rw [HBX.out];exact HO.out.2
end Go.Proofs
