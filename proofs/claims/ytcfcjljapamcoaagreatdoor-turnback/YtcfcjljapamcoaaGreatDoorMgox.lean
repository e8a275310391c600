/-
  Several texts in one (Lc Qd Hg Ld Ep Le Ig Tm).
-/
import Derived.RangeFuncNested
import Derived.RangeFuncBound
import Derived.RangeFuncCalls
import Derived.RangeFuncLeaves
import Derived.Shelf.Abstract
import Derived.Shelf.RegionOpen
import Derived.WalkKit
import Derived.WalkSpells
import Derived.WalkLawsBesides
import Derived.OwnWalkIn
import Derived.TacticsInMore
import Derived.LoopNIn
import Derived.LoopIn
import Derived.BigQuiet
import Derived.RegionIn
import Derived.Deep.QuietTactic
import Derived.Deep.RegionWith
import Derived.Lib.OthersKept
import Derived.Maps.AppendAt
import Derived.Lib.SmallJoins
import Derived.Shelf.SlSortCmp.QuietGrown
import Derived.Deep.AppendLies
import Derived.Deep.RegionLaw
import Derived.Deep.DeepCutAuto
import Derived.Deep.CutBlock
import Derived.Laws.OwnMore
import Derived.Laws.ResultCell
import Derived.Test.YtcfcjljapamcoaaGreatDoorMgex
import Derived.Test.YtcfcjljapamcoaaGreatDoorMgnx
import Derived.Test.YtcfcjljapamcoaaGreatDoorMgbx
import Derived.Test.YtcfcjljapamcoaaGreatDoorMgmx
import Derived.Test.YtcfcjljapamcoaaGreatDoorMgax
import Derived.RangeFuncWrites
import Derived.Carry
import Derived.Test.YtcfcjljapamcoaaGreatDoorMgcx
import Derived.Test.YtcfcjljapamcoaaGreatDoorMptx
import Derived.Test.YtcfcjljapamcoaaGreatDoorMglx
import Derived.Deep.LoopGhost
import Derived.Deep.Onto
import Derived.Deep.Upon
namespace Go.Proofs
open Go.RowKit Go.Shelf
set_option maxRecDepth 100000
attribute [local go_sem] Oper.semAt_some
attribute [local go_sem ↓] Go.wp_at_zero Go.wp_at_succ
structure WA (rs:List Rl) (L W:List Int):Prop where
 e:W.length=L.length
 b:∀ k,k<L.length→1≤bAt W k∧bAt W k≤64
 c:∀ st,Fin rs st→WB rs st L W
theorem WA.in64 {rs:List Rl} {L W:List Int} (h:WA rs L W):In64 W:=fun j=>by
 by_cases hj:j<L.length
 · have:=h.b j hj
   omega
 · have:bAt W j=0:=by simp [bAt,h.e,Nat.le_of_not_lt hj]
   omega
theorem WA.tws {rs:List Rl} {L W:List Int} (h:WA rs L W):Go.Proofs.tws W≤64*L.length:=by
 have:=tws_bound W (fun i hi=>(h.in64 i).2)
 rw [h.e] at this
 exact this
theorem WA.set {rs:List Rl} {L W:List Int} (h:WA rs L W) {k:Nat} (hk:k<L.length) {i:Nat} (hi:i<rs.length) (hu:hasU (fstS rs i) (bAt L k)) (hv:validB (fstS rs i)=true) {n:Int} (h1:bAt W k<n) (h2:n≤64) (h3:∀ st,Fin rs st→n≤at0 st.ws i):WA rs L (W.set k n):=by
 refine ⟨by simp [h.e],fun j hj => ?_,fun st hF=>(h.c st hF).set hk hi hu hv h1 (h3 st hF)⟩
 rw [bAt_set (by rw [h.e];exact hk)]
 split
 · have:=(h.b k hk).1;omega
 · exact h.b j hj
def FxU (rs:List Rl) (L W:List Int) (i j a:Nat):Prop:=∀ (i':Nat) (hi:i'<rs.length) (j' k:Nat),(i'<i∨(i'=i∧j'<j)∨(i'=i∧j'=j∧k<a))→j'<(fstS rs i').length→plc L (rg (fstS rs i') j').1≤k→k<L.length→bAt L k≤(rg (fstS rs i') j').2→wnt L W rs[i']≤bAt W k
theorem FxU.zero {rs:List Rl} {L W:List Int} : FxU rs L W 0 0 0:=fun i' _ j' k h=>by omega
theorem FxU.enter {rs:List Rl} {L W:List Int} {i j a:Nat} (h:FxU rs L W i j 0) (ha:a=plc L (rg (fstS rs i) j).1):FxU rs L W i j a:=fun i' hi j' k h1 h2 h3 h4 h5=>by
 rcases h1 with h1 | ⟨rfl,h1⟩ | ⟨rfl,rfl,h1⟩
 · exact h i' hi j' k (.inl h1) h2 h3 h4 h5
 · exact h _ hi j' k (.inr (.inl ⟨rfl,h1⟩)) h2 h3 h4 h5
 · omega
theorem FxU.place {rs:List Rl} {L W:List Int} {i j a:Nat} (h:FxU rs L W i j a) (hx:∀ hi:i<rs.length,wnt L W rs[i]≤bAt W a):FxU rs L W i j (a+1):=fun i' hi j' k h1 h2 h3 h4 h5=>by
 rcases h1 with h1 | ⟨rfl,h1⟩ | ⟨rfl,rfl,h1⟩
 · exact h i' hi j' k (.inl h1) h2 h3 h4 h5
 · exact h _ hi j' k (.inr (.inl ⟨rfl,h1⟩)) h2 h3 h4 h5
 · by_cases e:k=a
   · subst e;exact hx hi
   · exact h _ hi _ k (.inr (.inr ⟨rfl,rfl,by omega⟩)) h2 h3 h4 h5
theorem FxU.range {rs:List Rl} {L W:List Int} {i j a:Nat} (h:FxU rs L W i j a) (hS:L.Pairwise (· < ·)) (hx:a<L.length→(rg (fstS rs i) j).2<bAt L a):FxU rs L W i (j+1) 0:=fun i' hi j' k h1 h2 h3 h4 h5=>by
 rcases h1 with h1 | ⟨rfl,h1⟩ | ⟨rfl,rfl,h1⟩
 · exact h i' hi j' k (.inl h1) h2 h3 h4 h5
 · by_cases e:j'=j
   · subst e
     by_cases hk:k<a
     · exact h _ hi _ k (.inr (.inr ⟨rfl,rfl,hk⟩)) h2 h3 h4 h5
     · have h6:=hx (by omega)
       have h7:=rise_le hS (show a≤k by omega) h4
       omega
   · exact h _ hi j' k (.inr (.inl ⟨rfl,by omega⟩)) h2 h3 h4 h5
 · omega
theorem FxU.rule {rs:List Rl} {L W:List Int} {i j:Nat} (h:FxU rs L W i j 0) (hj:(fstS rs i).length≤j):FxU rs L W (i+1) 0 0:=fun i' hi j' k h1 h2 h3 h4 h5=>by
 rcases h1 with h1 | ⟨rfl,h1⟩ | ⟨rfl,rfl,h1⟩
 · by_cases e:i'=i
   · subst e
     exact h _ hi j' k (.inr (.inl ⟨rfl,by omega⟩)) h2 h3 h4 h5
   · exact h i' hi j' k (.inl (by omega)) h2 h3 h4 h5
 · omega
 · omega
theorem WA.fx {rs:List Rl} {L W:List Int} (h:WA rs L W) {i:Nat} (hU:FxU rs L W i 0 0) (hi:rs.length≤i):Fx rs L W:=⟨h.e,h.b,fun i' hi' x hx k h1 h2 h3=>by
 obtain ⟨j,hj,rfl⟩:=List.getElem_of_mem hx
 refine hU i' hi' j k (.inl (by omega)) hj ?_ h2 ?_
 · rw [rg_lt hj];exact h1
 · rw [rg_lt hj];exact h3⟩
structure LT (w1:World) (rs:List Rl) (lv:Value) (L:List Int) (wr:World) (wv:Value) (W:List Int):Prop where
 blk:wr.heap[w1.heap.size]? = some (.cells #[lv,wv] 89 (0,0))
 own:OwnI wr (w1.heap.size+1) wv W
 bel:Below w1.heap.size w1 wr
 wb:WA rs L W
theorem LT.grown {w1:World} {rs:List Rl} {lv:Value} {L:List Int} {wr wr':World} {wv:Value} {W:List Int} (h:LT w1 rs lv L wr wv W) (k:Grown wr wr'):LT w1 rs lv L wr' wv W:=
 ⟨blk_below h.blk k.below (blk_lt h.blk),h.own.below k.below (Nat.le_refl _),h.bel.trans (k.below.mono h.bel.size),h.wb⟩
theorem LT.form {w1:World} {rs:List Rl} {lv:Value} {L:List Int} {wr:World} {wv:Value} {W:List Int} (h:LT w1 rs lv L wr wv W) (hn:0<L.length) :
 ∃ g c:Nat,wv = .slice (some ⟨g,0,none⟩) L.length c∧L.length≤c∧(∀ j,j<L.length→wr.cell? ⟨g,j,none⟩=some (.int .i64 (bAt W j)))∧(∀ j,wr.frozen? ⟨g,j,none⟩=false) ∧
  ∀ (k:Nat) (n:Int),WA rs L (W.set k n)→LT w1 rs lv L (wr.setCell ⟨g,k,none⟩ (.int .i64 n)) wv (W.set k n):=by
 have ho:=h.own
 unfold OwnI at ho
 obtain ⟨g,c,hv,hb,hg⟩:=World.ownsRow.form ho (by rw [h.wb.e];exact hn)
 subst hv
 have hs:=fun k n=>(World.ownsRow.stored ho k (.int .i64 n)).1
 have hc:W.length≤c:=by obtain ⟨_,c',e,hcc,_⟩:=h.own.ir;injection e with _ _ e3;omega
 have hl:W.length=L.length:=h.wb.e
 refine ⟨g,c,by rw [hl],by omega,fun j hj => ?_,fun j=>World.ownsRow.frozenAt ho j,fun k n hw=>⟨?_,?_,h.bel.setCell (by show _≤g;omega) _,hw⟩⟩
 · rw [World.ownsRow.cellAt ho j (by omega)]
   simp [ints,bAt,hl,hj]
 · rw [turns_set wr g k _ _ (by omega)];exact h.blk
 · unfold OwnI
   rw [ints_set,List.length_set]
   exact hs k n
theorem LT.sc {w1:World} {rs:List Rl} {lv:Value} {L:List Int} {wr:World} {wv:Value} {W:List Int} (h:LT w1 rs lv L wr wv W) (hL:IR w1 lv L) (hn:0<L.length) (hN:L.length≤4611686018427387903):SC wr lv wv L W:=
 ⟨hL.below h.bel (Nat.le_refl _),h.own.ir,h.wb.e,hN,hn,h.wb.in64⟩
theorem ir_cells {w:World} {v:Value} {l:List Int} (h:IR w v l) {B:Nat} (hb:w.heap[B]? = some (.cells #[.slice none 0 0,.slice none 0 0] 89 (0,0))) {x y:Value} : IR ((w.setCell ⟨B,0,none⟩ x).setCell ⟨B,1,none⟩ y) v l:=by
 obtain ⟨a,cap,h1,h2,h3 | ⟨g,o,h3,h4⟩⟩:=h
 · exact ⟨a,cap,h1,h2,.inl h3⟩
 · refine ⟨a,cap,h1,h2,.inr ⟨g,o,h3,fun j hj => ?_⟩⟩
   have hc:=h4 j hj
   have hne:g≠B:=fun e=>by
    subst e
    rw [cell_of hb] at hc
    rcases e2:o+j with _ | _ | n <;> simp [e2] at hc
   rw [cell_same (turns_set _ _ _ _ g hne),cell_same (turns_set _ _ _ _ g hne)]
   exact hc
def LR (w1:World) (rs:List Rl) (lv:Value) (L W0:List Int) (wr:World) (m:Bool) (P:Prop):Prop:=∃ wv W,LT w1 rs lv L wr wv W∧tws W0≤tws W∧(m=true→tws W0<tws W)∧(m=false→W=W0∧P)
theorem LR.grown {w1:World} {rs:List Rl} {lv:Value} {L W0:List Int} {wr wr':World} {m:Bool} {P:Prop} (h:LR w1 rs lv L W0 wr m P) (k:Grown wr wr'):LR w1 rs lv L W0 wr' m P:=by
 obtain ⟨wv,W,h1,h2⟩:=h
 exact ⟨wv,W,h1.grown k,h2⟩
theorem LR.imp {w1:World} {rs:List Rl} {lv:Value} {L W0:List Int} {wr:World} {m:Bool} {P Q:Prop} (h:LR w1 rs lv L W0 wr m P) (k:P→Q):LR w1 rs lv L W0 wr m Q:=by
 obtain ⟨wv,W,h1,h2,h3,h4⟩:=h
 exact ⟨wv,W,h1,h2,h3,fun e=>⟨(h4 e).1,k (h4 e).2⟩⟩
def LeA (w:World) (rs:List Rl) (e:Ending) (w':World):Prop:=∃ lv wv,IsSl lv∧IsSl wv∧e = .returned (.tuple #[.agg #[lv,wv],.bool (fea rs)])∧Below w.heap.size w w'∧(fea rs=true→∃ L W,IR w' lv L∧IR w' wv W∧L.length≤4500000∧Srt (0::bords rs) L∧Fx rs L W∧∀ st,Fin rs st→WB rs st L W)
set_option maxHeartbeats 32000000 in
theorem leastA (v:Value) (rs:List Rl) (w:World) (h:PsR w v rs) (hA:(allE rs).2=0) (hcp:∀ r∈rs,copB r=false):Calls Tryz.prog 54 #[v] w (LeA w rs):=by
 have HF0:Hid (rs.length≤256∧∀ r∈rs,Ok r):=allE_ok hA
 have HFX:Hid (∀ L W,Srt (0::bords rs) L→Fx rs L W→fea rs=true):=fun L W h1 h2=>by
  obtain ⟨st,hw,_⟩:=h2.fea h1 hA hcp
  exact fea_iff.2 ⟨st,_,hw⟩
 clear hA hcp
 have HP0:Hid (PsR w v rs):=h
 have HBo:Hid (∀ V,Grown w V→Calls Tryz.prog 86 #[v] V (BoQ V rs)):=fun V hg=>borders_any v rs V (h.grown hg) HF0.out.2 (by have:=HF0.out.1;omega)
 obtain ⟨ra,rc,hv,hx1,hx2⟩:=h
 subst hv
 clear hx1 hx2
 obtain ⟨n,hN⟩:∃ n,rs.length=n:=⟨_,rfl⟩
 have HN:Hid (rs.length=n):=hN
 have hnI:(n:Int)≤256:=by have:=HF0.out.1;omega
 rw [hN] at HP0 HBo ⊢
 clear hN
 go_enter Tryz.func54,Tryz.ntmps54
 go_wp2_with fail
 obtain ⟨wA,hwA⟩:∃ wA,wA=w.alloc (.cells #[.slice none 0 0,.slice none 0 0] 89):=⟨_,rfl⟩
 have HGA:Hid (Grown w wA):=by show Grown _ _;rw [hwA];exact (Grown.refl _).alloc _
 have HBA:Hid (wA.heap[w.heap.size]? = some (.cells #[.slice none 0 0,.slice none 0 0] 89 (0,0))):=by show _=_;rw [hwA];exact heap_alloc_new _ _
 try rw [←hwA]
 refine (HBo.out _ HGA.out).mono ?_
 rintro e w1 ⟨lv,L,rfl,hIL,hSL,hB1⟩
 have HIL:Hid (IR w1 lv L):=hIL
 have HSL:Hid (Srt (0::bords rs) L):=hSL
 have HP:Hid (PsR w1 (.slice ra n rc) rs):=HP0.out.below (HGA.out.below.trans (hB1.mono HGA.out.size)) (Nat.le_refl _)
 have HB1:Hid (Below w.heap.size w w1∧w1.heap[w.heap.size]? = some (.cells #[.slice none 0 0,.slice none 0 0] 89 (0,0))):=⟨HGA.out.below.trans (hB1.mono HGA.out.size),blk_below HBA.out hB1 (blk_lt HBA.out)⟩
 have HLl:Hid (0<L.length∧L.length≤4500000):=by
  refine ⟨List.length_pos_of_mem ((hSL.m 0).2 (by simp)),?_⟩
  have h1:=hSL.n
  have h2:=bords_len HF0.out.2
  have h3:=HF0.out.1
  rw [List.length_cons] at h1
  omega
 obtain ⟨la,lc,hlv,hx1,hx2⟩:=hIL
 subst hlv
 clear hx1 hx2
 obtain ⟨N,hNL⟩:∃ N,L.length=N:=⟨_,rfl⟩
 have HNL:Hid (L.length=N):=hNL
 rw [hNL] at HIL HLl ⊢
 have hNI:(N:Int)≤4500000:=by have:=HLl.out;omega
 have hN0:(0:Int)<(N:Int):=by have:=HLl.out;omega
 clear hSL hB1 hNL HBo HP0 HBA HGA hwA
 go_wp2
 obtain ⟨w2,hw2⟩:∃ w2,w2=w1.alloc (.cells #[.slice la N lc,.slice none 0 0] 89):=⟨_,rfl⟩
 obtain ⟨sp,hsp⟩:∃ sp,w1.heap.size=sp:=⟨_,rfl⟩
 have HSP:Hid (w1.heap.size=sp):=hsp
 have H2:Hid (w2.heap[sp]? = some (.cells #[.slice la N lc,.slice none 0 0] 89 (0,0))∧Below sp w1 w2):=by
  rw [hw2,←hsp]
  exact ⟨heap_alloc_new _ _,((Grown.refl w1).alloc _).below⟩
 rw [←hw2,hsp]
 clear hw2 hsp
 go_loopw [5] (fun vi wr=>∃ k:Nat,vi = .int .i64 k∧k≤N∧Hid (∃ wv,wr.heap[sp]? = some (.cells #[.slice la N lc,wv] 89 (0,0))∧OwnI wr (sp+1) wv (List.replicate k 1)∧Below sp w1 wr)) (fun vi _=>N - (intOf vi).toNat)
 case atStart=>exact ⟨0,rfl,by omega,_,H2.out.1,OwnI.nil _ _,H2.out.2⟩
 case round=>
  clear H2
  obtain ⟨k,rfl,hk,HX⟩:=hrel
  have hk0:(0:Int)≤(k:Int):=by omega
  obtain ⟨wv,hb,ho,hB⟩:=HX.out
  have d0:wr.cell? ⟨sp,0,none⟩=some (.slice la N lc):=by rw [cell_of hb];simp
  have d1:wr.cell? ⟨sp,1,none⟩=some wv:=by rw [cell_of hb];simp
  by_cases hlt:k<N
  · have hlt':(k:Int)<(N:Int):=by omega
    obtain ⟨x1,x2,x3,hwv⟩:=ho.ir.sl
    subst hwv
    have HY:Hid (∀ ob,OwnI (wr.alloc ob) (sp+1) (.slice x1 x2 x3) (List.replicate k 1)∧sp+1≤(wr.alloc ob).heap.size∧(wr.alloc ob).heap[sp]? = some (.cells #[.slice la N lc,.slice x1 x2 x3] 89 (0,0))∧Below sp w1 (wr.alloc ob)):=fun ob=>by
     have g:=(Grown.refl wr).alloc ob
     exact ⟨ho.below g.below (Nat.le_refl _),by have:=blk_lt hb;have:=g.size;omega,blk_below hb g.below (blk_lt hb),hB.trans (g.below.mono (by have:=hB.size;have:=HSP.out;omega))⟩
    have hkN:(List.replicate k (1:Int)).length+1≤8796093022208:=by simp;omega
    clear hb ho hB HX
    go_wp2_with (at_builtin;go_must (refine push_I rfl _ _ 49 rfl Tryz.underlying49 (sp+1) _ (List.replicate k 1) rfl (HY.out _).1 _ _ 1 rfl (by (first | (simp;done) | exact new_cell _ _ _ _ rfl)) hkN (HY.out _).2.1 ?_;intro v3 w3 hO3 hB3;obtain ⟨y1,y2,y3,hv3⟩:=hO3.ir.sl;subst hv3;have HZ3:Hid (OwnI w3 (sp+1) (.slice y1 y2 y3) (List.replicate (k+1) 1)∧w3.heap[sp]? = some (.cells #[.slice la N lc,.slice x1 x2 x3] 89 (0,0))∧Below sp w1 w3):=⟨by rw [List.replicate_succ'];exact hO3,blk_below (HY.out _).2.2.1 hB3 (Nat.lt_succ_self _),(HY.out _).2.2.2.trans (hB3.mono (Nat.le_succ _))⟩;have f1:w3.cell? ⟨sp,1,none⟩=some (.slice x1 x2 x3):=(by rw [cell_of HZ3.out.2.1];simp);have f2:w3.frozen? ⟨sp,1,none⟩=false:=free_of HZ3.out.2.1;clear hO3 hB3))
    try go_wp2
    refine ⟨⟨k+1,by go_num,by omega,.slice y1 y2 y3,?_,?_,?_⟩,by simp [intOf];omega⟩
    · rw [set_heap HZ3.out.2.1];rfl
    · exact HZ3.out.1.turn fun b hb=>turns_set _ _ _ _ b (by omega)
    · exact HZ3.out.2.2.setCell (Nat.le_refl _) _
  · have hge:¬ (k:Int)<(N:Int):=by omega
    have HLS:Hid (∃ wv W,LT w1 rs (.slice la N lc) L wr wv W):=by
     have hkN:k=N:=by omega
     subst hkN
     refine ⟨wv,List.replicate k 1,by rw [HSP.out];exact hb,by rw [HSP.out];exact ho,by rw [HSP.out];exact hB,by simp [HNL.out],fun j hj => ?_,fun st hF=>⟨by simp [HNL.out],fun j hj => ?_⟩⟩
     · have hj2:j<k:=by rw [HNL.out] at hj;exact hj
       have e:bAt (List.replicate k 1) j=1:=by simp [bAt,hj2]
       rw [e]
       omega
     · have hj2:j<k:=by rw [HNL.out] at hj;exact hj
       have e:bAt (List.replicate k 1) j=1:=by simp [bAt,hj2]
       rw [e]
       exact ⟨Int.le_refl _,(hF.wK_in _).1⟩
    clear HX hb ho hB d1
    go_wp2
    go_loopg [6] (64*N+1) (fun f v6 wr=>∃ m,v6 = .bool m∧Hid (∃ wv W,LT w1 rs (.slice la N lc) L wr wv W∧(m=true→64*N<f+tws W)∧(m=false→Fx rs L W)))
    case atStart=>
     obtain ⟨wv,W,h1⟩:=HLS.out
     exact ⟨true,rfl,wv,W,h1,fun _=>by omega,by simp⟩
    case round=>
     clear HLS d0
     obtain ⟨m,rfl,HX⟩:=hrel
     cases m with
     | false=>
      obtain ⟨wv,W,h1,_,hfx⟩:=HX.out
      have HIW:Hid (IR wr wv W∧IR wr (.slice la N lc) L∧Fx rs L W∧∀ st,Fin rs st→WB rs st L W):=⟨h1.own.ir,HIL.out.below h1.bel (Nat.le_refl _),hfx rfl,h1.wb.c⟩
      clear hfx
      have hb:=h1.blk
      rw [HSP.out] at hb
      obtain ⟨gw,cw,hwv,_⟩:=h1.form (by rw [HNL.out];exact HLl.out.1)
      rw [HNL.out] at hwv
      subst hwv
      have hb0:=blk_below HB1.out.2 h1.bel (by have:=blk_lt HB1.out.2;omega)
      have d0:wr.cell? ⟨sp,0,none⟩=some (.slice la N lc):=by rw [cell_of hb];simp
      have d1:wr.cell? ⟨sp,1,none⟩=some (.slice (some ⟨gw,0,none⟩) N cw):=by rw [cell_of hb];simp
      have e0:wr.cell? ⟨w.heap.size,0,none⟩=some (.slice none 0 0):=by rw [cell_of hb0];simp
      have e1:wr.cell? ⟨w.heap.size,1,none⟩=some (.slice none 0 0):=by rw [cell_of hb0];simp
      have fz:∀ j,wr.frozen? ⟨w.heap.size,j,none⟩=false:=fun j=>free_of hb0
      have HBw:Hid (Below w.heap.size w wr):=HB1.out.1.trans (h1.bel.mono HB1.out.1.size)
      have HB0:Hid (wr.heap[w.heap.size]? = some (.cells #[.slice none 0 0,.slice none 0 0] 89 (0,0))):=hb0
      clear HX h1 hb hb0
      go_wp2
      refine ret_sc rfl rfl rfl (set_heap (set_heap HB0.out)) ?_
      have hfe:=HFX.out L _ HSL.out HIW.out.2.2.1
      refine ⟨_,_,⟨_,_,_,rfl⟩,⟨_,_,_,rfl⟩,by rw [hfe],(HBw.out.setCell (Nat.le_refl _) _).setCell (Nat.le_refl _) _,fun _ => ?_⟩
      exact ⟨L,_,ir_cells HIW.out.2.1 HB0.out,ir_cells HIW.out.1 HB0.out,by rw [HNL.out];exact HLl.out.2,HSL.out,HIW.out.2.2.1,HIW.out.2.2.2⟩
     | true=>
      obtain ⟨wv0,W0,h1,h2,_⟩:=HX.out
      have HM:Hid (64*N<gk+tws W0):=h2 rfl
      have HQ0:Hid (LR w1 rs (.slice la N lc) L W0 wr false (FxU rs L W0 0 0 0)):=⟨wv0,W0,h1,Nat.le_refl _,by simp,fun _=>⟨rfl,FxU.zero⟩⟩
      clear HX h1 h2
      go_wp2
      go_loopw [6,7] (fun v6 v7 wr=>∃ (m:Bool) (k:Nat),v6 = .bool m∧v7 = .int .i64 k∧k≤n∧Hid (LR w1 rs (.slice la N lc) L W0 wr m (FxU rs L W0 k 0 0))) (fun _ v7 _=>n - (intOf v7).toNat)
      case atStart=>exact ⟨false,0,rfl,rfl,by omega,HQ0⟩
      case round=>
       clear HQ0
       obtain ⟨m,i,rfl,rfl,hi,HQ⟩:=hrel
       have hi0:(0:Int)≤(i:Int):=by omega
       by_cases hlti:i<n
       · have hlti':(i:Int)<(n:Int):=by omega
         go_upto_block 5 with fail
         go_cut [6] (fun s wx=>∃ m,s = .bool m∧Hid (LR w1 rs (.slice la N lc) L W0 wx m (FxU rs L W0 (i+1) 0 0)))
         case rest=>
          obtain ⟨m',rfl,HQ'⟩:=hcut
          go_wp2
          exact ⟨⟨m',i+1,rfl,by go_num,by omega,HQ'⟩,by simp [intOf];omega⟩
         case first=>
          have hil:i<rs.length:=by rw [HN.out];exact hlti
          obtain ⟨wv,W,hLS,ht1,ht2,ht3⟩:=HQ.out
          obtain ⟨gw,cw,hwv,hcw,hcel,hfz,hset⟩:=hLS.form (by rw [HNL.out];exact HLl.out.1)
          rw [HNL.out] at hwv
          subst hwv
          have hblk:=hLS.blk
          rw [HSP.out] at hblk
          obtain ⟨a',c',e',_,hPr⟩:=HP.out
          obtain ⟨g,o,ha',hPd⟩:=hPr.resolve_left (fun e=>by rw [e] at hil;simp at hil)
          injection e' with e1 e2 e3
          clear e2 e3
          rw [ha'] at e1
          subst e1
          obtain ⟨av,kv,pv,rv,q0,q1,q2,q3,q4,q5,q6,hR⟩:=hPd i hil
          have q0:=cell_below q0 hLS.bel (Nat.le_refl _)
          have q1:=cell_below q1 hLS.bel (Nat.le_refl _)
          have q2:=cell_below q2 hLS.bel (Nat.le_refl _)
          have q3:=cell_below q3 hLS.bel (Nat.le_refl _)
          have q4:=cell_below q4 hLS.bel (Nat.le_refl _)
          have q5:=cell_below q5 hLS.bel (Nat.le_refl _)
          have q6:=cell_below q6 hLS.bel (Nat.le_refl _)
          have hOk:=HF0.out.2 _ (List.getElem_mem hil)
          have hWn:=fun st (hF:Fin rs st)=>wnt_le hF HSL.out (hLS.wb.c st hF) hil
          have HC0:=fun (V:World) (hg:Grown wr V)=>wants_any (.slice la N lc) (.slice (some ⟨gw,0,none⟩) N cw) L W rs[i] av kv pv rv V ((hLS.grown hg).sc HIL.out (by rw [HNL.out];exact HLl.out.1) (by rw [HNL.out];have:=HLl.out.2;omega)) ((hR.below hLS.bel (Nat.le_refl _)).grown hg) hOk
          obtain ⟨x,hx⟩:∃ x,wnt L W rs[i]=x:=⟨_,rfl⟩
          rw [hx] at hWn
          have HXW:Hid (∀ st,Fin rs st→x≤at0 st.ws i):=hWn
          have HX64:Hid (64<x→fea rs=false):=fun h64=>by
           cases hf:fea rs with
           | false=>rfl
           | true=>
            obtain ⟨st,c,hw⟩:=fea_iff.1 hf
            have hF:=wgh_fin hw
            have h1:=hWn st hF
            have h2:=(hF.ws_in hil).2
            omega
          have HC:Hid (∀ m os,Calls Tryz.prog 87 #[.agg #[.slice la N lc,.slice (some ⟨gw,0,none⟩) N cw],.agg #[.bool rs[i].bg,av,kv,pv,.bool rs[i].en,rv,.int .i64 rs[i].cu]] (Go.Sort.grow (wr.drewN m) os) fun e w'=>e = .returned (.int .i64 x)∧Grown (Go.Sort.grow (wr.drewN m) os) w'):=fun m os=>by
           have:=HC0 _ ((Grown.refl wr).quiet m os)
           rw [hx] at this;exact this
          have HFS:=first_valid HF0.out.2 hil
          obtain ⟨ka,kc,hkv,hkc,hks⟩:=hR.k
          obtain ⟨kg,ko,hka,hkd⟩:=hks.resolve_left (fun e=>by have:=hOk.k0;rw [e] at this;simp at this)
          subst hka
          obtain ⟨sv,qs,hs⟩:=hkd 0 hOk.k0
          rw [Nat.add_zero] at qs
          have qs:=cell_below qs hLS.bel (Nat.le_refl _)
          obtain ⟨F,hFF⟩:∃ F,fstS rs i=F:=⟨_,rfl⟩
          have HFE:Hid (fstS rs i=F):=hFF
          have hs2:Rs w1 sv F:=by
           have hk:=hOk.k0
           have e:keyAt rs[i].key 0=rs[i].key[0]:=by simp [keyAt,hk]
           rw [←hFF,fstS_at hil,e];exact hs
          have HFV:Hid (validB F=true):=by have:=HFS.1;rw [hFF] at this;exact this
          have hF512:F.length≤512:=by have:=HFS.2.1;rw [hFF] at this;exact this
          obtain ⟨kn,hkn⟩:∃ kn,rs[i].key.length=kn:=⟨_,rfl⟩
          have hkn0:(0:Int)<(kn:Int):=by have:=hOk.k0;omega
          have hkn1:0<kn:=by have:=hOk.k0;omega
          rw [hkn] at hkv
          subst hkv
          obtain ⟨a1,n1,c1,rfl⟩:=hR.a.sl
          obtain ⟨a3,n3,c3,rfl⟩:=hR.p.sl
          obtain ⟨a5,n5,c5,rfl⟩:=hR.r.sl
          have HSV:Hid (Rs w1 sv F):=hs2
          obtain ⟨sa,sc,hsv,hsc1,hsc2⟩:=hs2
          subst hsv
          obtain ⟨sn,hsn⟩:∃ sn,F.length=sn:=⟨_,rfl⟩
          have HSN:Hid (F.length=sn):=hsn
          rw [hsn] at HSV qs hF512
          have hsnI:(sn:Int)≤512:=by omega
          generalize rs[i].bg=xb at q0 HC
          generalize rs[i].en=xe at q4 HC
          generalize rs[i].cu=xc at q6 HC
          have k0:=fun m os=>((Grown.refl wr).quiet m os).cellv (show wr.cell? ⟨sp,0,none⟩=some (.slice la N lc) by rw [cell_of hblk];simp)
          have k1:=fun m os=>((Grown.refl wr).quiet m os).cellv (show wr.cell? ⟨sp,1,none⟩=some (.slice (some ⟨gw,0,none⟩) N cw) by rw [cell_of hblk];simp)
          have p0:=fun m os=>((Grown.refl wr).quiet m os).cellv q0
          have p1:=fun m os=>((Grown.refl wr).quiet m os).cellv q1
          have p2:=fun m os=>((Grown.refl wr).quiet m os).cellv q2
          have p3:=fun m os=>((Grown.refl wr).quiet m os).cellv q3
          have p4:=fun m os=>((Grown.refl wr).quiet m os).cellv q4
          have p5:=fun m os=>((Grown.refl wr).quiet m os).cellv q5
          have p6:=fun m os=>((Grown.refl wr).quiet m os).cellv q6
          have ps:=fun m os=>((Grown.refl wr).quiet m os).cellv qs
          have HQ1:LR w1 rs (.slice la N lc) L W0 wr m (FxU rs L W0 i 0 0∧wntI L W0 rs i=x):=⟨_,_,hLS,ht1,ht2,fun hm=>⟨(ht3 hm).1,(ht3 hm).2,by rw [wntI_at hil,←(ht3 hm).1];exact hx⟩⟩
          have HQG:Hid (∀ m' os,LR w1 rs (.slice la N lc) L W0 (Go.Sort.grow (wr.drewN m') os) m (FxU rs L W0 i 0 0∧wntI L W0 rs i=x)):=fun m' os=>HQ1.grown ((Grown.refl wr).quiet m' os)
          clear HQ HQ1 ht3 hLS ht1 ht2 hcw hcel hfz hset hblk hPr hPd ha' q0 q1 q2 q3 q4 q5 q6 qs hR hOk hWn HC0 hx HFS hkc hks hkd hs hFF hkn hsc1 hsc2 hsn
          go_wp2
          refine wp_region_quiet_grown mixed (by kernel_rfl) ?_
          repeat (go_big_quiet_step ((go_at_call 87;exact grown_of (HC.out _ _))))
          refine wpQuiet_nil ?_
          intro _ hw'
          obtain ⟨⟨nq,osq⟩,hw''⟩:=hw'
          subst hw''
          obtain ⟨wB,hwB⟩:∃ wB,wB=Go.Sort.grow (wr.drewN nq) osq:=⟨_,rfl⟩
          have r2:=p2 nq osq
          have rS:=ps nq osq
          have HQB:Hid (LR w1 rs (.slice la N lc) L W0 wB m (FxU rs L W0 i 0 0∧wntI L W0 rs i=x)):=by rw [hwB];exact HQG.out nq osq
          clear k0 k1 p0 p1 p2 p3 p4 p5 p6 ps HC HQG
          simp only [←hwB] at r2 rS ⊢
          clear hwB
          go_wp2
          go_loopw [6,10] (fun v6 v10 wr=>∃ (m:Bool) (k:Nat),v6 = .bool m∧v10 = .int .i64 k∧k≤sn∧Hid (LR w1 rs (.slice la N lc) L W0 wr m (FxU rs L W0 i k 0∧wntI L W0 rs i=x))) (fun _ v10 _=>sn - (intOf v10).toNat)
          case atStart=>exact ⟨m,0,rfl,rfl,by omega,HQB⟩
          case round=>
           clear HQB r2 rS
           obtain ⟨m,j,rfl,rfl,hj,HQ⟩:=hrel
           have hj0:(0:Int)≤(j:Int):=by omega
           by_cases hltj:j<sn
           · have hltj':(j:Int)<(sn:Int):=by omega
             go_upto_block 7 with fail
             go_cut [6] (fun s wx=>∃ m,s = .bool m∧Hid (LR w1 rs (.slice la N lc) L W0 wx m (FxU rs L W0 i (j+1) 0∧wntI L W0 rs i=x)))
             case rest=>
              obtain ⟨m',rfl,HQ'⟩:=hcut
              go_wp2
              exact ⟨⟨m',j+1,rfl,by go_num,by omega,HQ'⟩,by simp [intOf];omega⟩
             case first=>
              have hjF:j<F.length:=by rw [HSN.out];exact hltj
              have hil:i<rs.length:=by rw [HN.out];exact hlti
              obtain ⟨wv,W,hLS,ht1,ht2,ht3⟩:=HQ.out
              have hblk:=hLS.blk
              rw [HSP.out] at hblk
              obtain ⟨sa',sc',es,_,hsr⟩:=HSV.out
              obtain ⟨sg,so,hsa,hsd⟩:=hsr.resolve_left (fun e=>by rw [e] at hjF;simp at hjF)
              injection es with e1 e2 e3
              clear e2 e3
              rw [hsa] at e1
              subst e1
              obtain ⟨c1,c2⟩:=hsd j hjF
              have c1:=cell_below c1 hLS.bel (Nat.le_refl _)
              have c2:=cell_below c2 hLS.bel (Nat.le_refl _)
              have HFI:Hid (∀ k,plc L (rg F j).1≤k→k<N→bAt L k≤(rg F j).2→hasU F (bAt L k)):=fun k h1 h2 h3=>by
               have:=first_in HSL.out hil (j:=j) (k:=k) (by rw [HFE.out];exact hjF) (by rw [HFE.out];exact h1) (by rw [HNL.out];exact h2) (by rw [HFE.out];exact h3)
               rw [HFE.out] at this;exact this
              have hplt:=plc_lt (rg F j).1 (show 0<L.length by rw [HNL.out];exact HLl.out.1)
              rw [HNL.out] at hplt
              have HC0:=fun (V:World) (hg:Grown wr V)=>place_any (.slice la N lc) L (rg F j).1 V (HIL.out.below ((hLS.grown hg).bel) (Nat.le_refl _)) (by rw [HNL.out];have:=HLl.out.2;omega)
              obtain ⟨lo,hlo⟩:∃ lo,(rg F j).1=lo:=⟨_,rfl⟩
              obtain ⟨hh,hhh⟩:∃ hh,(rg F j).2=hh:=⟨_,rfl⟩
              rw [hlo] at c1 HFI hplt HC0
              rw [hhh] at c2 HFI
              have HHH:Hid ((rg F j).2=hh):=hhh
              obtain ⟨pl,hpl⟩:∃ pl,plc L lo=pl:=⟨_,rfl⟩
              rw [hpl] at HFI hplt
              have HC:Hid (∀ m os,Calls Tryz.prog 88 #[.slice la N lc,.int .i64 lo] (Go.Sort.grow (wr.drewN m) os) fun e w'=>e = .returned (.int .i64 pl)∧Grown (Go.Sort.grow (wr.drewN m) os) w'):=fun m os=>(HC0 _ ((Grown.refl wr).quiet m os)).mono fun e w' ⟨h1,h2⟩=>⟨by rw [h1,hpl],by rw [h2];exact Grown.refl _⟩
              have k0:=fun m os=>((Grown.refl wr).quiet m os).cellv (show wr.cell? ⟨sp,0,none⟩=some (.slice la N lc) by rw [cell_of hblk];simp)
              have k1:=fun m os=>((Grown.refl wr).quiet m os).cellv c1
              have HPL:Hid (pl=plc L (rg (fstS rs i) j).1):=by rw [HFE.out,hlo,hpl];exact rfl
              have HQG:Hid (∀ m' os,LR w1 rs (.slice la N lc) L W0 (Go.Sort.grow (wr.drewN m') os) m (FxU rs L W0 i j pl∧wntI L W0 rs i=x)):=fun m' os=>(HQ.out.grown ((Grown.refl wr).quiet m' os)).imp fun h=>⟨h.1.enter HPL.out,h.2⟩
              have c1':=fun m os=>((Grown.refl wr).quiet m os).cellv c2
              clear HQ hLS ht1 ht2 ht3 hblk hsr hsa hsd HC0 hlo hhh hpl
              go_wp2
              refine wp_region_quiet_grown mixed (by kernel_rfl) ?_
              repeat (go_big_quiet_step ((go_at_call 88;exact grown_of (HC.out _ _))))
              refine wpQuiet_nil ?_
              intro _ hw'
              obtain ⟨⟨nq,osq⟩,hw''⟩:=hw'
              subst hw''
              have HQB:=Hid.mk' (HQG.out nq osq)
              generalize Go.Sort.grow (wr.drewN nq) osq=wB at HQB ⊢
              clear k0 k1 c1' HC HQG c1 c2
              go_wp2
              go_loopw [6,11] (fun v6 v11 wr=>∃ (m:Bool) (a:Nat),v6 = .bool m∧v11 = .int .i64 a∧pl≤a∧a≤N∧Hid (LR w1 rs (.slice la N lc) L W0 wr m (FxU rs L W0 i j a∧wntI L W0 rs i=x))) (fun _ v11 _=>N - (intOf v11).toNat)
              case atStart=>exact ⟨m,pl,rfl,rfl,Nat.le_refl _,by omega,HQB⟩
              case round=>
               clear HQB
               obtain ⟨m,a,rfl,rfl,ha1,ha2,HQ⟩:=hrel
               have ha0:(0:Int)≤(a:Int):=by omega
               have hil:i<rs.length:=by rw [HN.out];exact hlti
               have hjF:j<F.length:=by rw [HSN.out];exact hltj
               obtain ⟨wv,W,hLS,ht1,ht2,ht3⟩:=HQ.out
               obtain ⟨gw,cw,hwv,hcw,hcel,hfz,hset⟩:=hLS.form (by rw [HNL.out];exact HLl.out.1)
               rw [HNL.out] at hwv hcel
               subst hwv
               have hblk:=hLS.blk
               rw [HSP.out] at hblk
               have d0:wr.cell? ⟨sp,0,none⟩=some (.slice la N lc):=by rw [cell_of hblk];simp
               have d1:wr.cell? ⟨sp,1,none⟩=some (.slice (some ⟨gw,0,none⟩) N cw):=by rw [cell_of hblk];simp
               have hIL2:=HIL.out.below hLS.bel (Nat.le_refl _)
               obtain ⟨sa',sc',es,_,hsr⟩:=HSV.out
               obtain ⟨sg',so',hsa,hsd⟩:=hsr.resolve_left (fun e=>by rw [e] at hjF;simp at hjF)
               injection es with e1 e2 e3
               rw [hsa] at e1
               injection e1 with e1
               injection e1 with e1 e4
               subst e1 e4
               clear e2 e3 hsa
               have c2:=cell_below (hsd j hjF).2 hLS.bel (Nat.le_refl _)
               rw [HHH.out] at c2
               have HQG:Hid (∀ (Q:Prop) V,Grown wr V→((FxU rs L W0 i j a∧wntI L W0 rs i=x)→Q)→LR w1 rs (.slice la N lc) L W0 V m Q):=fun Q V hg k=>(HQ.out.grown hg).imp k
               have HW0:Hid (m=false→W=W0):=fun hm=>(ht3 hm).1
               have HHR:Hid ((rg (fstS rs i) j).2=hh):=by rw [HFE.out];exact HHH.out
               by_cases h1:a<N
               · have h1I:(a:Int)<(N:Int):=by omega
                 have h1d:decide ((a:Int)<(N:Int))=true:=by simpa using h1I
                 have h1n:decide (a<N)=true:=by simpa using h1
                 have HST:Hid (bAt L a≤hh→bAt W a<x→x≤64→∀ (Q:Prop) V,Grown wr V→LR w1 rs (.slice la N lc) L W0 (V.setCell ⟨gw,a,none⟩ (.int .i64 x)) true Q):=fun hle hlt h64 Q V hg=>by
                  have hL2:=hLS.grown hg
                  obtain ⟨gw',cw',hwv',_,_,_,hset'⟩:=hL2.form (by rw [HNL.out];exact HLl.out.1)
                  injection hwv' with z1 z2 z3
                  injection z1 with z1
                  injection z1 with z1
                  subst z1
                  have hu:hasU (fstS rs i) (bAt L a):=by rw [HFE.out];exact HFI.out a ha1 h1 hle
                  have hWB:=hLS.wb.set (k:=a) (by rw [HNL.out];exact h1) hil hu (by rw [HFE.out];exact HFV.out) hlt h64 HXW.out
                  have hmore:=tws_more (W:=W) (k:=a) (n:=x) (by rw [hLS.wb.e,HNL.out];exact h1) (by have:=(hLS.wb.b a (by rw [HNL.out];exact h1)).1;omega) hlt
                  exact ⟨_,_,hset' a x hWB,by omega,fun _=>by omega,by simp⟩
                 obtain ⟨lg,lo2,hla,cl⟩:=ir_cell hIL2 (j:=a) (by rw [HNL.out];exact h1)
                 subst hla
                 have cw1:=hcel a h1
                 by_cases h2:bAt L a≤hh
                 · by_cases h3:x≤bAt W a
                   · have HPLC:Hid ((FxU rs L W0 i j a∧wntI L W0 rs i=x)→m=false→FxU rs L W0 i j (a+1)∧wntI L W0 rs i=x):=fun hp hm=>⟨hp.1.place fun hi=>by rw [←wntI_at hi,hp.2,←HW0.out hm];exact h3,hp.2⟩
                     have HQP:Hid (∀ V,Grown wr V→LR w1 rs (.slice (some ⟨lg,lo2,none⟩) N lc) L W0 V m (FxU rs L W0 i j (a+1)∧wntI L W0 rs i=x)):=fun V hg=>by
                      cases hm:m with
                      | true=>
                       obtain ⟨v1,W1,g1,g2,g3,g4⟩:=HQG.out _ V hg id
                       exact ⟨v1,W1,g1,g2,fun _=>g3 hm,by simp⟩
                      | false=>
                       have:=HQG.out _ V hg fun hp=>HPLC.out hp hm
                       rw [hm] at this
                       exact this
                     clear HPLC
                     generalize bAt L a=y1 at cl h2
                     generalize bAt W a=y2 at cw1 h3
                     clear HST HW0 HQG hset hfz hcel hLS hIL2 hsd hsr HQ ht1 ht2 ht3 hblk
                     go_wp2
                     go_quiet (fail)
                     go_wp2
                     exact ⟨⟨m,a+1,rfl,by go_num,by omega,by omega,HQP.out _ (by (repeat (first | exact Grown.refl _ | refine Grown.alloc ?_ _ | refine Grown.drew ?_ | refine Grown.drewN ?_ _ | refine Grown.quiet ?_ _ _)))⟩,by simp [intOf];omega⟩
                   · by_cases h64:64<x
                     · have h64d:decide (64<x)=true:=by simpa using h64
                       have h3d:decide (x≤bAt W a)=false:=by simpa using h3
                       have hfe:=HX64.out h64
                       have hb0:=blk_below HB1.out.2 hLS.bel (by have:=blk_lt HB1.out.2;omega)
                       have HBw:Hid (Below w.heap.size w wr):=HB1.out.1.trans (hLS.bel.mono HB1.out.1.size)
                       have HGD:Hid (∀ V,Grown wr V→V.heap[w.heap.size]? = some (.cells #[.slice none 0 0,.slice none 0 0] 89 (0,0))∧Below w.heap.size w V):=fun V hg=>⟨blk_below hb0 hg.below (blk_lt hb0),HBw.out.trans (hg.below.mono HBw.out.size)⟩
                       have HB0:=Hid.mk' hb0
                       generalize bAt L a=y1 at cl h2
                       generalize bAt W a=y2 at cw1 h3 h3d
                       clear HST hset hfz hcel hLS hIL2 hsd hsr HQ ht1 ht2 ht3 hblk HQG HW0 hb0 HBw
                       go_wp2
                       go_quiet (fail)
                       have HV:=Hid.mk' (HGD.out (wr.drewN nq) (Grown.drewN (Grown.refl wr) nq))
                       have e0:wr.cell? ⟨w.heap.size,0,none⟩=some (.slice none 0 0):=by rw [cell_of HB0.out];simp
                       have e1:wr.cell? ⟨w.heap.size,1,none⟩=some (.slice none 0 0):=by rw [cell_of HB0.out];simp
                       have fz:∀ j,wr.frozen? ⟨w.heap.size,j,none⟩=false:=fun j=>free_of HB0.out
                       clear HGD
                       go_wp2
                       refine ret_sc rfl rfl rfl (set_heap (set_heap HV.out.1)) ?_
                       exact ⟨_,_,⟨_,_,_,rfl⟩,⟨_,_,_,rfl⟩,by rw [hfe],(HV.out.2.setCell (Nat.le_refl _) _).setCell (Nat.le_refl _) _,fun h=>by rw [hfe] at h;cases h⟩
                     have HS2:=Hid.mk' (HST.out h2 (by omega) (by omega) (FxU rs L W0 i j (a+1)∧wntI L W0 rs i=x))
                     have f1:=hfz a
                     generalize bAt L a=y1 at cl h2
                     generalize bAt W a=y2 at cw1 h3
                     have h3d:decide (x≤y2)=false:=by simpa using h3
                     have h4d:¬ 64<x:=by omega
                     clear HST hset hfz hcel hLS hIL2 hsd hsr HQ ht1 ht2 ht3 hblk HQG
                     go_wp2
                     go_quiet (fail)
                     go_wp2
                     exact ⟨⟨true,a+1,rfl,by go_num,by omega,by omega,HS2.out _ (by (repeat (first | exact Grown.refl _ | refine Grown.alloc ?_ _ | refine Grown.drew ?_ | refine Grown.drewN ?_ _ | refine Grown.quiet ?_ _ _)))⟩,by simp [intOf];omega⟩
                 · have HRG:Hid ((FxU rs L W0 i j a∧wntI L W0 rs i=x)→FxU rs L W0 i (j+1) 0∧wntI L W0 rs i=x):=fun hp=>⟨hp.1.range HSL.out.p fun _=>by rw [HHR.out];omega,hp.2⟩
                   have HQP:=Hid.mk' (fun V (hg:Grown wr V)=>HQG.out _ V hg HRG.out)
                   clear HRG HQG HW0
                   generalize bAt L a=y1 at cl h2
                   have h2d:decide (y1≤hh)=false:=by simpa using h2
                   clear HST hset hfz hcel hLS hIL2 hsd hsr HQ ht1 ht2 ht3 hblk cw1
                   go_wp2
                   go_quiet (fail)
                   go_wp2
                   go_meet
                   exact ⟨m,rfl,HQP.out _ (by (repeat (first | exact Grown.refl _ | refine Grown.alloc ?_ _ | refine Grown.drew ?_ | refine Grown.drewN ?_ _ | refine Grown.quiet ?_ _ _)))⟩
               · have h1I:¬ (a:Int)<(N:Int):=by omega
                 have h1d:decide ((a:Int)<(N:Int))=false:=by simpa using h1I
                 have h1n:decide (a<N)=false:=by simpa using h1
                 have HRG:Hid ((FxU rs L W0 i j a∧wntI L W0 rs i=x)→FxU rs L W0 i (j+1) 0∧wntI L W0 rs i=x):=fun hp=>⟨hp.1.range HSL.out.p fun h=>by rw [HNL.out] at h;omega,hp.2⟩
                 have HQP:=Hid.mk' (fun V (hg:Grown wr V)=>HQG.out _ V hg HRG.out)
                 clear HRG HQG HW0
                 clear hset hfz hcel hLS hIL2 hsd hsr HQ ht1 ht2 ht3 hblk
                 go_wp2
                 go_quiet (fail)
                 go_wp2
                 go_meet
                 exact ⟨m,rfl,HQP.out _ (by (repeat (first | exact Grown.refl _ | refine Grown.alloc ?_ _ | refine Grown.drew ?_ | refine Grown.drewN ?_ _ | refine Grown.quiet ?_ _ _)))⟩
           · have hge:¬ (j:Int)<(sn:Int):=by omega
             have HQ2:Hid (LR w1 rs (.slice la N lc) L W0 wr m (FxU rs L W0 (i+1) 0 0)):=HQ.out.imp fun hp=>hp.1.rule (by rw [HFE.out,HSN.out];omega)
             clear HQ
             go_wp2
             go_meet
             exact ⟨m,rfl,HQ2⟩
       · have hge:¬ (i:Int)<(n:Int):=by omega
         go_wp2
         go_roundg (gk - 1)
         case measure=>
          obtain ⟨_,W,h2,h3,_⟩:=HQ.out
          have h1:=HM.out
          have h4:=h2.wb.tws
          rw [HNL.out] at h4
          omega
         case rel=>
          refine ⟨m,rfl,?_⟩
          obtain ⟨wv,W,h2,h3,h4,h5⟩:=HQ.out
          refine ⟨wv,W,h2,fun hm => ?_,fun hm => ?_⟩
          rotate_left
          · obtain ⟨h6,h7⟩:=h5 hm
            rw [h6] at h2 ⊢
            exact h2.wb.fx h7 (by rw [HN.out];omega)
          have h1:=HM.out
          have:=h4 hm
          omega
set_option maxHeartbeats 4000000 in
theorem rall_any (v:Value) (rs:List Rl) (w:World) (h:PsR w v rs):Calls Tryz.prog 52 #[.agg #[v]] w fun e w'=>e = .returned (.tuple #[.int .i64 (allE rs).1,.int .i64 (allE rs).2])∧Grown w w':=by
 have HP:Hid (∀ W,Grown w W→PsR W v rs):=fun W hW=>h.grown hW
 obtain ⟨ra,rc,rfl,_,_⟩:=h
 obtain ⟨n,hn⟩:∃ n,rs.length=n:=⟨_,rfl⟩
 have HN:Hid (rs.length=n):=hn
 rw [hn] at HP ⊢
 unfold allE
 rw [hn]
 clear hn
 by_cases h1:256<n
 · rw [if_pos h1]
   have h1':(256:Int)<(n:Int):=by omega
   go_enter Tryz.func52,Tryz.ntmps52
   go_wp2
   go_ret2
   exact ⟨rfl,(Grown.refl _).alloc _⟩
 · rw [if_neg h1]
   have h1':¬ (256:Int)<(n:Int):=by omega
   obtain ⟨E,hE⟩:∃ E,fstR rs 0=E:=⟨_,rfl⟩
   have HE:Hid (fstR rs 0=E):=hE
   rw [hE]
   clear hE
   obtain ⟨E1,E2⟩:=E
   simp only
   go_enter Tryz.func52,Tryz.ntmps52
   go_wp2
   go_loopw [4] (fun vi wr=>∃ k:Nat,vi = .int .i64 k∧k≤n∧Hid (fstR (rs.drop k) k=(E1,E2))∧Grown (w.alloc (.cells #[.slice ra n rc] 24)) wr) (fun vi _=>n - (intOf vi).toNat)
   case atStart=>exact ⟨0,rfl,by omega,HE,Grown.refl _⟩
   case round=>
    obtain ⟨k,rfl,hk,hF,hB⟩:=hrel
    have hpos:(0:Int)≤(k:Int):=by omega
    have hkI:(k:Int)≤256:=by omega
    have c0:=hB.cellv (a:=⟨w.heap.size,0,none⟩) (v := .slice ra n rc) (by simp)
    have hG0:Grown w wr:=((Grown.refl w).alloc _).trans hB
    by_cases hlt:k<n
    · have hlt':(k:Int)<(n:Int):=by omega
      have hkl:k<rs.length:=by rw [HN.out];exact hlt
      obtain ⟨a',c',e',_,hP⟩:=HP.out wr hG0
      obtain ⟨g,o,ha',hP2⟩:=hP.resolve_left (fun e=>by rw [e] at hkl;simp at hkl)
      injection e' with e1 e2 e3
      clear e2 e3
      rw [ha'] at e1
      subst e1
      obtain ⟨av,kv,pv,rv,q0,q1,q2,q3,q4,q5,q6,hR⟩:=hP2 k hkl
      have HC:Hid (∀ W,Grown wr W→Calls Tryz.prog 84 #[.agg #[.bool rs[k].bg,av,kv,pv,.bool rs[k].en,rv,.int .i64 rs[k].cu]] W fun e w'=>e = .returned (.int .i64 (chk rs[k]))∧Grown W w'):=fun W hW=>by
       have hg:Grown w W:=hG0.trans hW
       exact rcheck_any rs[k] av kv pv rv W (hR.grown hW)
      obtain ⟨a1,a2,a3,rfl⟩:=hR.a.sl
      obtain ⟨b1,b2,b3,rfl⟩:=hR.k.sl
      obtain ⟨p1,p2,p3,rfl⟩:=hR.p.sl
      obtain ⟨r1,r2,r3,rfl⟩:=hR.r.sl
      have hF2:=hF.out
      rw [drop_rl hkl] at hF2
      unfold fstR at hF2
      generalize hch:chk rs[k]=ch at HC hF2
      generalize rs[k].bg=xb at *
      generalize rs[k].en=xe at *
      generalize rs[k].cu=xc at *
      by_cases hq:ch=0
      · have HF2:Hid (fstR (rs.drop (k+1)) (k+1)=(E1,E2)):=by rw [if_pos hq] at hF2;exact hF2
        subst hq
        clear hF2 hF hch hR hP hP2 ha'
        go_wp2_with (go_at_call 84;refine (HC.out _ (Grown.refl _)).mono ?_;rintro e w' ⟨rfl,hb⟩)
        exact ⟨⟨k+1,by go_num,by omega,HF2,hB.trans hb⟩,by simp [intOf];omega⟩
      · rw [if_neg hq] at hF2
        injection hF2 with f1 f2
        subst f1 f2
        have hq':(ch != 0)=true:=by simpa using hq
        clear hF hch hR hP hP2 ha'
        go_wp2_with (go_at_call 84;refine (HC.out _ (Grown.refl _)).mono ?_;rintro e w' ⟨rfl,hb⟩)
        go_ret2
        exact ⟨rfl,((Grown.refl w).alloc _).trans (hB.trans hb)⟩
    · have hge:¬ (k:Int)<(n:Int):=by omega
      have hF2:=hF.out
      rw [List.drop_eq_nil_of_le (by rw [HN.out];omega)] at hF2
      unfold fstR at hF2
      injection hF2 with f1 f2
      subst f1 f2
      clear hF
      go_wp2
      go_ret2
      exact ⟨rfl,hG0⟩
theorem PsR.take {w:World} {a:Option Addr} {n c:Nat} {rs:List Rl} (h:PsR w (.slice a n c) rs) {m:Nat} (hm:m≤n):PsR w (.slice a m c) (rs.take m):=by
 obtain ⟨a',c',e,h1,h2⟩:=h
 injection e with e1 e2 e3
 subst e1 e2 e3
 have hl:(rs.take m).length=m:=by simp;omega
 refine ⟨a,c,by rw [hl],by omega,?_⟩
 by_cases hz:rs.take m=[]
 · exact .inl hz
 · obtain ⟨g,o,h3,h4⟩:=h2.resolve_left (fun e=>hz (by rw [e];simp))
   refine .inr ⟨g,o,h3,fun j hj => ?_⟩
   rw [List.getElem_take]
   exact h4 j (by simp at hj;omega)
theorem fstC_at:∀ {rs:List Rl} {b k:Nat} (hk:k<rs.length),copB rs[k]=true→(∀ j (h:j<k),copB (rs[j]'(by omega))=false)→fstC rs b=some (b+k)
 | r::l,b,0,hk,h1,h2=>by
  unfold fstC
  rw [if_pos (by simpa using h1)]
  rfl
 | r::l,b,k+1,hk,h1,h2=>by
  unfold fstC
  rw [if_neg (by have:=h2 0 (by omega);simp at this;simp [this]),fstC_at (b:=b+1) (k:=k) (by simpa using hk) (by simpa using h1) (fun j h=>by have:=h2 (j+1) (by omega);simpa using this)]
  congr 1
  omega
theorem chkW_bad {rs:List Rl} (h:(allE rs).2≠0):chkW rs=allE rs:=by
 unfold chkW wgh
 rw [if_pos h]
theorem chkW_cop {rs:List Rl} (hA:(allE rs).2=0) {k:Nat} (hk:k<rs.length) (h1:copB rs[k]=true) (h2:∀ j (h:j<k),copB (rs[j]'(by omega))=false):chkW rs=((k:Int),80):=by
 unfold chkW wgh
 rw [if_neg (by rw [hA];simp),fstC_at hk h1 h2]
 simp
set_option maxHeartbeats 8000000 in
theorem rchkA (v:Value) (rs:List Rl) (w:World) (h:PsR w v rs):Calls Tryz.prog 22 #[.agg #[v]] w fun e w'=>e = .returned (.tuple #[.int .i64 (chkW rs).1,.int .i64 (chkW rs).2])∧Below w.heap.size w w':=by
 have HA:Hid (∀ V,Grown w V→Calls Tryz.prog 52 #[.agg #[v]] V fun e w'=>e = .returned (.tuple #[.int .i64 (allE rs).1,.int .i64 (allE rs).2])∧Grown V w'):=fun V hg=>rall_any v rs V (h.grown hg)
 by_cases hA:(allE rs).2=0
 · have HP:Hid (∀ V,Below w.heap.size w V→PsR V v rs):=fun V hb=>h.below hb (Nat.le_refl _)
   have HOK:Hid (rs.length≤256∧∀ r∈rs,Ok r):=allE_ok hA
   have HL:Hid ((∀ r∈rs,copB r=false)→∀ V,Below w.heap.size w V→Calls Tryz.prog 54 #[v] V (LeA V rs)):=fun hc V hb=>leastA v rs V (h.below hb (Nat.le_refl _)) hA hc
   have HC0:Hid (∀ k (hk:k<rs.length),copB rs[k]=true→(∀ j (h:j<k),copB (rs[j]'(by omega))=false)→chkW rs=((k:Int),80)):=fun k hk h1 h2=>chkW_cop hA hk h1 h2
   have HFE:Hid (fea rs=true→chkW rs=(0,0)):=chkW_fea
   have HFN:Hid ((∀ r∈rs,copB r=false)→fea rs=false→∃ n,n<rs.length∧chkW rs=((n:Int),81)∧(∀ m,m≤n→fea (rs.take m)=true)∧fea (rs.take (n+1))=false):=fun hc hf=>wgh_first hA hc hf
   obtain ⟨ra,rc,hv,hcap,hx2⟩:=h
   subst hv
   have HL2:Hid ((∀ r∈rs,copB r=false)→∀ V i,Below w.heap.size w V→i<rs.length→Calls Tryz.prog 54 #[.slice ra (i+1) rc] V (LeA V (rs.take (i+1)))):=fun hc V i hb hi=>leastA _ _ V ((HP.out V hb).take (by omega)) (allE_take hA _) fun r hr=>hc r (List.mem_of_mem_take hr)
   have HRA:Hid (0<rs.length→∃ g o,ra=some ⟨g,o,none⟩):=fun h0=>by
    rcases hx2 with e | ⟨g,o,e,_⟩
    · rw [e] at h0;simp at h0
    · exact ⟨g,o,e⟩
   clear hx2
   obtain ⟨n,hN⟩:∃ n,rs.length=n:=⟨_,rfl⟩
   have HN:Hid (rs.length=n):=hN
   have hnI:(n:Int)≤256:=by have:=HOK.out.1;omega
   obtain ⟨C1,hC1⟩:∃ C1,(chkW rs).1=C1:=⟨_,rfl⟩
   obtain ⟨C2,hC2⟩:∃ C2,(chkW rs).2=C2:=⟨_,rfl⟩
   have HCC:Hid (∀ a b:Int,chkW rs=(a,b)→C1=a∧C2=b):=fun a b e=>by rw [←hC1,←hC2,e];exact ⟨rfl,rfl⟩
   rw [hC1,hC2]
   rw [hA] at HA
   rw [hN] at HP HA HL hcap HRA ⊢
   have HCP:Hid (n≤rc):=hcap
   clear hN hA hcap hC1 hC2
   go_enter Tryz.func22,Tryz.ntmps22
   go_wp2_with fail
   obtain ⟨wA,hwA⟩:∃ wA,wA=w.alloc (.cells #[.slice ra n rc] 24):=⟨_,rfl⟩
   have HGA:Hid (Grown w wA):=by show Grown _ _;rw [hwA];exact (Grown.refl _).alloc _
   have cA:wA.cell? ⟨w.heap.size,0,none⟩=some (.slice ra n rc):=by rw [hwA];simp
   try rw [←hwA]
   clear hwA
   refine (HA.out _ HGA.out).mono ?_
   rintro e w1 ⟨rfl,hG1⟩
   have HG1:Hid (Grown w w1):=HGA.out.trans hG1
   have c1:=hG1.cellv cA
   clear hG1 cA HA HGA
   generalize (allE rs).1=E1
   go_wp2
   go_loopw [6] (fun vi wr=>∃ k:Nat,vi = .int .i64 k∧k≤n∧Hid (∀ j (h:j<rs.length),j<k→copB rs[j]=false)∧Grown w1 wr) (fun vi _=>n - (intOf vi).toNat)
   case atStart=>exact ⟨0,rfl,by omega,fun j h h0=>by omega,Grown.refl _⟩
   case round=>
    obtain ⟨k,rfl,hk,HCK,hB⟩:=hrel
    have hpos:(0:Int)≤(k:Int):=by omega
    have c0:=hB.cellv c1
    by_cases hlt:k<n
    · have hlt':(k:Int)<(n:Int):=by omega
      have hkl:k<rs.length:=by rw [HN.out];exact hlt
      obtain ⟨a',c',e',_,hP⟩:=HP.out wr ((HG1.out.trans hB).below)
      obtain ⟨g,o,ha',hP2⟩:=hP.resolve_left (fun e=>by rw [e] at hkl;simp at hkl)
      injection e' with e1 e2 e3
      clear e2 e3
      rw [ha'] at e1
      subst e1
      obtain ⟨av,kv,pv,rv,q0,q1,q2,q3,q4,q5,q6,hR⟩:=hP2 k hkl
      obtain ⟨B,hBB⟩:∃ B,copB rs[k]=B:=⟨_,rfl⟩
      have HC:Hid (∀ W,Grown wr W→Calls Tryz.prog 53 #[.agg #[.bool rs[k].bg,av,kv,pv,.bool rs[k].en,rv,.int .i64 rs[k].cu]] W fun e w'=>e = .returned (.bool B)∧Grown W w'):=fun W hW=>by
       have:=wrong_any rs[k] av kv pv rv W (hR.grown hW) (HOK.out.2 _ (List.getElem_mem hkl))
       rw [hBB] at this;exact this
      have HT:Hid (B=true→C1=(k:Int)∧C2=80):=fun hb=>HCC.out _ _ (HC0.out k hkl (hBB.trans hb) fun j hj=>HCK.out j (by omega) hj)
      have HF:Hid (B=false→∀ j (h:j<rs.length),j<k+1→copB rs[j]=false):=fun hb j hj hjk=>by
       by_cases e:j=k
       · subst e;rw [hBB,hb]
       · exact HCK.out j hj (by omega)
      obtain ⟨a1,a2,a3,rfl⟩:=hR.a.sl
      obtain ⟨b1,b2,b3,rfl⟩:=hR.k.sl
      obtain ⟨p1,p2,p3,rfl⟩:=hR.p.sl
      obtain ⟨r1,r2,r3,rfl⟩:=hR.r.sl
      generalize rs[k].bg=xb at *
      generalize rs[k].en=xe at *
      generalize rs[k].cu=xc at *
      clear hR hP hP2 ha' hBB
      have HGB:Hid (Below w.heap.size w wr):=(HG1.out.trans hB).below
      cases B with
      | false=>
       as_aux_lemma=>
        go_wp2_with (go_at_call 53;refine (HC.out _ (Grown.refl _)).mono ?_;rintro e w' ⟨rfl,hb⟩)
        exact ⟨⟨k+1,by go_num,by omega,HF.out (by trivial),hB.trans hb⟩,by simp [intOf];omega⟩
      | true=>
       as_aux_lemma=>
        have HT2:=HT.out rfl
        obtain ⟨h1,h2⟩:=HT2
        subst h1 h2
        go_wp2_with (go_at_call 53;refine (HC.out _ (Grown.refl _)).mono ?_;rintro e w' ⟨rfl,hb⟩)
        go_ret2
        exact ⟨rfl,HGB.out.trans (hb.below.mono HGB.out.size)⟩
    · have hge:¬ (k:Int)<(n:Int):=by omega
      have HG2:Hid (Grown w wr):=HG1.out.trans hB
      have HCA:Hid (∀ r∈rs,copB r=false):=fun r hr=>by
       obtain ⟨j,hj,rfl⟩:=List.getElem_of_mem hr
       exact HCK.out j hj (by have:=HN.out;omega)
      clear hB HCK HC0
      go_wp2_with fail
      refine (HL.out HCA.out _ HG2.out.below).mono ?_
      rintro e w2 ⟨lv,wv,⟨l1,l2,l3,rfl⟩,⟨l4,l5,l6,rfl⟩,rfl,hB2,_⟩
      have c2:=cell_below c0 hB2 (Nat.le_refl _)
      have HBF:Hid (Below w.heap.size w w2):=HG2.out.below.trans (hB2.mono HG2.out.size)
      have HBG:Hid (∀ V,Grown w2 V→Below w.heap.size w V):=fun V hg=>HBF.out.trans (hg.below.mono HBF.out.size)
      clear hB2 c0 HL HG2 HG1 c1
      cases hfe:fea rs with
      | true=>
       obtain ⟨h1,h2⟩:=HCC.out _ _ (HFE.out hfe)
       subst h1 h2
       go_wp2
       by_cases hn0:n=0
       · subst hn0
         go_loopw [9] (fun vi wr=>vi = .int .i64 0∧Grown w2 wr) (fun _ _=>0)
         case atStart=>exact ⟨rfl,by (repeat (first | exact Grown.refl _ | refine Grown.alloc ?_ _ | refine Grown.drew ?_ | refine Grown.drewN ?_ _ | refine Grown.quiet ?_ _ _))⟩
         case round=>
          obtain ⟨rfl,hg⟩:=hrel
          have c4:=hg.cellv c2
          go_wp2
          go_ret2
          exact ⟨rfl,HBG.out _ hg⟩
       · have hn1:(0:Int)<(n:Int):=by omega
         have hn2:0<n:=by omega
         go_loopw [9] (fun vi wr=>vi = .int .i64 0∧Grown w2 wr) (fun _ _=>0)
         case atStart=>exact ⟨rfl,by (repeat (first | exact Grown.refl _ | refine Grown.alloc ?_ _ | refine Grown.drew ?_ | refine Grown.drewN ?_ _ | refine Grown.quiet ?_ _ _))⟩
         case round=>
          obtain ⟨rfl,hg⟩:=hrel
          have c4:=hg.cellv c2
          go_wp2
          go_ret2
          exact ⟨rfl,HBG.out _ hg⟩
      | false=>
       obtain ⟨n0,hn0,hcw,hyes,hno⟩:=HFN.out HCA.out hfe
       obtain ⟨h1,h2⟩:=HCC.out _ _ hcw
       subst h1 h2
       have hn0n:n0<n:=by rw [HN.out] at hn0;exact hn0
       have HY:Hid (∀ m,m≤n0→fea (rs.take m)=true):=hyes
       have HNO:Hid (fea (rs.take (n0+1))=false):=hno
       obtain ⟨rg1,ro1,hra⟩:=HRA.out (by omega)
       subst hra
       clear hyes hno hcw hn0 hfe
       go_wp2
       obtain ⟨bk,hbk⟩:∃ bk,w.heap.size=bk:=⟨_,rfl⟩
       have HBK:Hid (w.heap.size=bk):=hbk
       rw [hbk] at c2 ⊢
       clear hbk
       go_loopw [9] (fun vi wr=>∃ i:Nat,vi = .int .i64 i∧i≤n0∧Below bk w wr∧wr.cell? ⟨bk,0,none⟩=some (.slice (some ⟨rg1,ro1,none⟩) n rc)) (fun vi _=>n - (intOf vi).toNat)
       case atStart=>
        refine ⟨0,rfl,by omega,?_,?_⟩
        · rw [←HBK.out];exact HBG.out _ (by (repeat (first | exact Grown.refl _ | refine Grown.alloc ?_ _ | refine Grown.drew ?_ | refine Grown.drewN ?_ _ | refine Grown.quiet ?_ _ _)))
        · exact Grown.cellv (by (repeat (first | exact Grown.refl _ | refine Grown.alloc ?_ _ | refine Grown.drew ?_ | refine Grown.drewN ?_ _ | refine Grown.quiet ?_ _ _))) c2
       case round=>
        obtain ⟨i,rfl,hi,hBi,ci⟩:=hrel
        have hi0:(0:Int)≤(i:Int):=by omega
        have hin:i<n:=by omega
        have hinI:(i:Int)<(n:Int):=by omega
        have hcpI:(i:Int)+1≤(rc:Int):=by have:=HCP.out;omega
        have hl1:i+1≤rc:=by have:=HCP.out;omega
        have hdI:decide ((i:Int)<(n:Int))=true:=by simpa using hinI
        have hdN:decide (i<n)=true:=by simpa using hin
        have HBI:Hid (∀ V,Grown wr V→Below bk w V):=fun V hg=>hBi.trans (hg.below.mono (by have:=hBi.size;have:=HBK.out;omega))
        obtain ⟨B,hBB⟩:∃ B,fea (rs.take (i+1))=B:=⟨_,rfl⟩
        have HCL:Hid (∀ V,Grown wr V→Calls Tryz.prog 54 #[.slice (some ⟨rg1,ro1,none⟩) (i+1) rc] V fun e w'=>∃ a1 a2 a3 b1 b2 b3,e = .returned (.tuple #[.agg #[.slice a1 a2 a3,.slice b1 b2 b3],.bool B])∧Below V.heap.size V w'):=fun V hg=>(HL2.out HCA.out V i (by rw [HBK.out];exact HBI.out V hg) (by rw [HN.out];exact hin)).mono fun e w' hq=>by
         obtain ⟨lv,wv,⟨a1,a2,a3,rfl⟩,⟨b1,b2,b3,rfl⟩,rfl,h2,_⟩:=hq
         exact ⟨a1,a2,a3,b1,b2,b3,by rw [hBB],h2⟩
        have HB1:Hid (B=false→i=n0):=fun hb=>by
         by_cases e:i=n0
         · exact e
         · have:=HY.out (i+1) (by omega);rw [hBB,hb] at this;cases this
        have HB2:Hid (B=true→i<n0):=fun hb=>by
         by_cases e:i=n0
         · subst e;rw [hBB,hb] at HNO;cases HNO
         · omega
        have HAf:Hid (∀ V W,Grown wr V→Below V.heap.size V W→Below bk w W∧W.cell? ⟨bk,0,none⟩=some (.slice (some ⟨rg1,ro1,none⟩) n rc)):=fun V W hg hb=>⟨(HBI.out V hg).trans (hb.mono (by have:=(HBI.out V hg).size;have:=HBK.out;omega)),cell_below (hg.cellv ci) hb (Nat.le_refl _)⟩
        clear hBi hBB
        go_wp2_with fail
        refine (HCL.out _ (by (repeat (first | exact Grown.refl _ | refine Grown.alloc ?_ _ | refine Grown.drew ?_ | refine Grown.drewN ?_ _ | refine Grown.quiet ?_ _ _)))).mono ?_
        rintro e w3 ⟨a1,a2,a3,b1,b2,b3,rfl,hB3⟩
        have H3:=Hid.mk' (HAf.out _ _ (by (repeat (first | exact Grown.refl _ | refine Grown.alloc ?_ _ | refine Grown.drew ?_ | refine Grown.drewN ?_ _ | refine Grown.quiet ?_ _ _))) hB3)
        clear hB3 HAf HCL
        have HGE:Hid (∀ V,Grown w3 V→Below bk w V∧V.cell? ⟨bk,0,none⟩=some (.slice (some ⟨rg1,ro1,none⟩) n rc)):=fun V hg=>⟨H3.out.1.trans (hg.below.mono (by have:=H3.out.1.size;have:=HBK.out;omega)),hg.cellv H3.out.2⟩
        cases B with
        | false=>
         have hi:=HB1.out (by trivial)
         subst hi
         go_wp2
         go_ret2
         exact ⟨rfl,by rw [HBK.out];exact (HGE.out _ (by (repeat (first | exact Grown.refl _ | refine Grown.alloc ?_ _ | refine Grown.drew ?_ | refine Grown.drewN ?_ _ | refine Grown.quiet ?_ _ _)))).1⟩
        | true=>
         have hi:=HB2.out (by trivial)
         go_wp2
         exact ⟨⟨i+1,by go_num,by omega,(HGE.out _ (by (repeat (first | exact Grown.refl _ | refine Grown.alloc ?_ _ | refine Grown.drew ?_ | refine Grown.drewN ?_ _ | refine Grown.quiet ?_ _ _)))).1,(HGE.out _ (by (repeat (first | exact Grown.refl _ | refine Grown.alloc ?_ _ | refine Grown.drew ?_ | refine Grown.drewN ?_ _ | refine Grown.quiet ?_ _ _)))).2⟩,by simp [intOf];omega⟩
 · have HX:=chkW_bad hA
   rw [HX]
   have hne:((allE rs).2 != 0)=true:=by simpa using hA
   obtain ⟨v1,v2,v3,rfl⟩:∃ a b c,v = .slice a b c:=by obtain ⟨a,c,e,_⟩:=h;exact ⟨_,_,_,e⟩
   generalize (allE rs).1=E1 at *
   generalize (allE rs).2=E2 at *
   clear HX h
   go_enter Tryz.func22,Tryz.ntmps22
   go_wp2_with (go_at_call 52;refine (HA.out _ ((Grown.refl _).alloc _)).mono ?_;rintro e w1 ⟨rfl,hg1⟩)
   go_ret2
   exact ⟨rfl,(((Grown.refl _).alloc _).trans hg1).below⟩
def Two (N:Nat) (W W':World):Prop:=W.heap.size≤W'.heap.size∧∀ k,k<W.heap.size→k≠N+1→k≠N+1+1+1→W'.heap[k]? = W.heap[k]?
theorem fea_chk {rs:List Rl} (h:fea rs=false):(chkW rs).2≠0:=by
 unfold fea at h
 cases hw:wgh rs with
 | mk o c=>
  cases o with
  | none=>rw [chkW,hw];exact wgh_none hw
  | some st=>rw [hw] at h;cases h
theorem wgh_zero2 {rs:List Rl} (h:fea rs=true):∃ st,wgh rs=(some st,0,0):=by
 obtain ⟨st,c,hw⟩:=fea_iff.1 h
 have hc:=chkW_fea h
 rw [chkW,hw] at hc
 simp only at hc
 exact ⟨st,by rw [hw,hc]⟩
theorem fea_all {rs:List Rl} {st:St} (hw:wgh rs=(some st,0,0)):(allE rs).2=0:=by
 unfold wgh at hw
 by_cases h0:(allE rs).2≠0
 · rw [if_pos h0] at hw;injection hw with h1;cases h1
 · exact Classical.not_not.1 h0
theorem ret_dn {fn:Func} {p:Tmp} {W:World} {B:Nat} {tmps:Array Value} {a b:Value} {R:Ending→World→Prop} (hr:fn.results=#[.cell p 101]) (hp:tmps.getD p undef = .pointer (some ⟨B,0,none⟩)) (h:W.heap[B]? = some (.cells #[a,b] 101 (0,0)))
 (K:R (.returned (.agg #[a,b])) W):bodyPost Tryz.prog fn R Exit.ret { tmps:=tmps,defers:=[] } W:=by
 have c0:W.cell? ⟨B,0,none⟩=some a:=by rw [cell_of h];simp
 have c1:W.cell? ⟨B,1,none⟩=some b:=by rw [cell_of h];simp
 refine bodyPost_ret (v := .agg #[a,b]) ?_ rfl K
 rw [Array.getD_eq_getD_getElem?] at hp
 simp only [results,hr]
 simp [hp,go_sem,c0,c1]
def GoQ (w:World) (rs:List Rl) (l0:List Int) (e:Ending) (w':World):Prop:=∃ uv sv d xs,e = .returned (.agg #[uv,sv])∧IsSl uv∧IsSl sv∧OwnI w' w.heap.size uv d∧OwnS w' w.heap.size sv xs∧GoOk rs l0 xs∧lft rs l0 xs=[]∧(d.length:Int)=sumA xs∧G3 rs l0 xs d []∧Below w.heap.size w w'
structure GR (w1:World) (op:Nat) (rs:List Rl) (st:St) (l0:List Int) (wr:World) (uv sv lv:Value) (d:List Int) (xs:List Stp) (l:List Int) (f:Nat):Prop where
 g:GS w1 op wr uv sv lv d xs l
 ok:GoOk rs l0 xs
 lf:lft rs l0 xs=l
 dn:(d.length:Int)=sumA xs
 d16:d.length≤16*xs.length
 m:wS rs st l<f
 at3:G3 rs l0 xs d l
theorem OwnS.ssl {w:World} {base:Nat} {v:Value} {l:List Stp} (h:OwnS w base v l):∃ a c,v = .slice a l.length c:=by
 rcases h.2 with ⟨rfl,h0⟩ | ⟨g,cap,cur,rfl,_⟩
 · exact ⟨none,0,by rw [h0]⟩
 · exact ⟨_,cap,rfl⟩
theorem GR.lens {w1:World} {op:Nat} {rs:List Rl} {st:St} {l0:List Int} {wr:World} {uv sv lv:Value} {d:List Int} {xs:List Stp} {l:List Int} {f:Nat} (h:GR w1 op rs st l0 wr uv sv lv d xs l f) (hF:Fin rs st) (h0:l0.length≤500000):xs.length≤32000000∧d.length≤512000000∧l.length≤32000000:=by
 have h1:=h.ok.weight hF xs.length (Nat.le_refl _)
 rw [List.take_length,h.lf] at h1
 have h2:=(wS_len hF l0).2
 have h3:=(wS_len hF l).1
 have h4:=h.d16
 omega
theorem own_wf {w:World} {base:Nat} {v:Value} {l:List Int} (h:OwnI w base v l):v = .slice none 0 0∨∃ g o n c,v = .slice (some ⟨g,o,none⟩) n c:=by
 rcases h.2 with ⟨rfl,h0⟩ | ⟨g,cap,cur,rfl,_⟩
 · exact .inl rfl
 · exact .inr ⟨g,0,_,cap,rfl⟩
theorem GS.aside {w1:World} {op:Nat} {wr:World} {uv sv lv:Value} {d:List Int} {xs:List Stp} {l:List Int} (h:GS w1 op wr uv sv lv d xs l) {sb:Nat} (j:Nat) (x:Value) (h1:op<sb) (h2:uv.ownBlock≠some sb) (h3:sv.ownBlock≠some sb) (h4:l≠[]→lv.ownBlock≠some sb):GS w1 op (wr.setCell ⟨sb,j,none⟩ x) uv sv lv d xs l:=by
 have ht:∀ b,b≠sb→(wr.setCell ⟨sb,j,none⟩ x).heap[b]? = wr.heap[b]? := fun b hb=>turns_set _ _ _ _ b hb
 refine ⟨(ht op (by omega)).trans h.blk,⟨h.own.1,?_⟩,⟨h.ows.1,?_⟩,ir_turn h.lef fun hl g hg=>ht g (fun e=>h4 hl (by rw [hg,e])),fun hl g hg => ?_,h.bel.setCell (by show op≤sb;omega) _⟩
 · rcases h.own.2 with k1 | ⟨g,cap,cur,k1,k2,k3,k4⟩
   · exact .inl k1
   · exact .inr ⟨g,cap,cur,k1,k2,(ht g (fun e=>h2 (by rw [k1,←e];rfl))).trans k3,k4⟩
 · rcases h.ows.2 with k1 | ⟨g,cap,cur,k1,k2,k3,k4⟩
   · exact .inl k1
   · exact .inr ⟨g,cap,cur,k1,k2,(ht g (fun e=>h3 (by rw [k1,←e];rfl))).trans k3,k4⟩
 · obtain ⟨p1,p2,p3,p4⟩:=h.lap hl g hg
   exact ⟨p1,p2,p3,by simpa using p4⟩
theorem GS.low {w1:World} {op:Nat} {wr w':World} {uv sv lv:Value} {d:List Int} {xs:List Stp} {l:List Int} (h:GS w1 op wr uv sv lv d xs l) (hb:Below wr.heap.size wr w'):GS w1 op w' uv sv lv d xs l:=
 ⟨blk_below h.blk hb (blk_lt h.blk),h.own.below hb (Nat.le_refl _),h.ows.below hb (Nat.le_refl _),h.lef.below hb (Nat.le_refl _),fun hl g hg=>by
  obtain ⟨a,b,c,e⟩:=h.lap hl g hg
  exact ⟨a,b,c,Nat.lt_of_lt_of_le e hb.size⟩,h.bel.trans (hb.mono (by have:=h.bel.size;have:=blk_lt h.blk;omega))⟩
theorem FarI.turn {w w':World} {base:Nat} {v:Value} {l:List Int} (h:FarI w base v l) (hk:∀ b,base≤b→w'.heap[b]? = w.heap[b]?):FarI w' base v l:=by
 obtain ⟨a,c,e,hc,hr⟩:=h
 refine ⟨a,c,e,hc,?_⟩
 rcases hr with hr | ⟨g,o,h1,h2,h3⟩
 · exact .inl hr
 · exact .inr ⟨g,o,h1,h2,fun j hj=>(cell_same (hk g h2)).trans (h3 j hj)⟩
theorem push_more {ops:Array Oper} {rest:List Oper} {o:Oper} {a:Act} {Q:Exit→Act→World→Prop} {w:World} (hgd:o.guard=none) (s x:Operand)
 (ho:o.op = .call { callee := .builtin .append,args:=#[s,x],argTypes:=#[49,49] }) (base:Nat) (v:Value) (l:List Int) (hs:a.eval s=v) (h:OwnI w base v l) (e:List Int) (xv:Value) (hx:a.eval x=xv) (hi:IR w xv e) (hl:l.length+e.length≤1000000000) (hb:base≤w.heap.size)
 (hK:∀ v' w',OwnI w' base v' (l++e)→Below base w w'→wpList Tryz.prog ops Q rest (a.put o.dst v') w'):wpList Tryz.prog ops Q (o::rest) a w:=by
 obtain ⟨i0,hi0,hz0,hz1,hz2⟩:=info_parts iinfo3
 by_cases he:e=[]
 · subst he
   rw [List.append_nil] at hK
   obtain ⟨A,c,rfl⟩:=ir_nil hi
   obtain ⟨ua,uc,huv⟩:=h.sl
   have hle:l.length≤uc:=by obtain ⟨_,c',e',h1,_⟩:=h.ir;rw [huv] at e';injection e' with _ _ e3;omega
   refine wpList_plain hgd fun _ hK2 => ?_
   have hr:=run_append_nothing (P:=Tryz.prog) w 49 49 o.type 3 i0 Tryz.underlying49 hi0 ua l.length uc hle (.slice A 0 c) ⟨.inl ⟨3,Tryz.underlying49⟩,fun w'=>by cases A <;> simp [Builtin.lenOf,go_sem],by cases A <;> simp [Builtin.firstCells,go_sem],by cases A <;> simp [Builtin.firstCells,go_sem],by simp,by simp⟩
   unfold Oper.wp execOp
   simp only [ho,resolve,invoke,builtin,Sem.run_bind,Sem.run_pure,Result.andThen_ok,List.map_toArray,List.map_cons,List.map_nil,hs,hx,huv,hr]
   exact hK2 _ _ (by rw [←huv];exact hK v w h (Below.refl _ _))
 · obtain ⟨g,o',n,c,rfl,h1,h2,hd⟩:=ir_some hi he
   refine wpList_append_own w hgd s x 49 ho base 3 i0 (.int .i64 0) 1 8 Tryz.underlying49 hi0 hz0 hz1 hz2 rfl (by decide) v l.length (ints l) hs h ⟨g,o',none⟩ n c (ints e) hx (by rw [ints_length];omega) ?_ (ints_one _) (by unfold maxLen;omega) (by omega) hb fun v' w' h2 h3 _=>hK v' w' (by unfold OwnI;rw [ints_append,List.length_append,h1];exact h2) ((Below.refl _ w).grown h3 hb (fun k hk=>(World.ownsRow.lt h k hk).1))
   intro j u hj
   simp only [ints,List.getElem?_map,Option.map_eq_some_iff] at hj
   obtain ⟨y,hy,rfl⟩:=hj
   obtain ⟨hj1,hj2⟩:=List.getElem?_eq_some_iff.1 hy
   rw [add_at,hd j hj1,hj2]
theorem own_lg {lg lo a b g n m:Nat} (h:(Value.slice (some ⟨lg,lo,none⟩) a b).ownBlock=some g) (hl:lg<n):(g=lg∨m≤g)∧g<n:=by
 have e:lg=g:=by simpa [Value.ownBlock] using h
 subst e
 exact ⟨.inl rfl,hl⟩
set_option maxHeartbeats 32000000 in
theorem rgo_any (v:Value) (rs:List Rl) (st:St) (c:Int × Int) (s:ByteArray) (w:World) (h:PsR w v rs) (hw:wgh rs=(some st,c)) (hs:s.size≤500000):Calls Tryz.prog 59 #[.agg #[v],.string s] w (GoQ w rs (intsU (units s))):=by
 have hF:=wgh_fin hw
 have HF:Hid (Fin rs st):=hF
 have HCk:Hid (∀ r∈rs,chk r=0):=wgh_chk hw
 have HP0:Hid (PsR w v rs):=h
 obtain ⟨ra,rc,hv,hx1,hx2⟩:=h
 subst hv
 clear hx1 hx2
 obtain ⟨n,hN⟩:∃ n,rs.length=n:=⟨_,rfl⟩
 have HN:Hid (rs.length=n):=hN
 have hnI:(n:Int)≤256:=by have:=hF.n;omega
 rw [hN] at HP0 ⊢
 have HCu:Hid (∀ V,Calls Tryz.prog 24 #[.string s] V fun e w'=>∃ v,e = .returned v∧IR w' v (intsU (units s))∧Below V.heap.size V w'):=fun V=>rcut_any s V (by omega)
 have HL0:Hid ((intsU (units s)).length≤500000):=by show _≤_;rw [intsU_length];have:=units_len s;omega
 generalize intsU (units s)=l0 at HCu HL0 ⊢
 clear hN hF hw hs
 go_enter Tryz.func59,Tryz.ntmps59
 go_wp2_with fail
 obtain ⟨wA,hwA⟩:∃ wA,wA=(w.alloc (.cells #[.slice ra n rc] 24)).alloc (.cells #[.slice none 0 0,.slice none 0 0] 101):=⟨_,rfl⟩
 have HGA:Hid (Grown w wA):=by show Grown _ _;rw [hwA];exact ((Grown.refl _).alloc _).alloc _
 have HBA:Hid (wA.heap[w.heap.size]? = some (.cells #[.slice ra n rc] 24 (0,0))∧wA.heap[w.heap.size+1]? = some (.cells #[.slice none 0 0,.slice none 0 0] 101 (0,0))):=by
  rw [hwA]
  refine ⟨?_,by simpa using heap_alloc_new (w.alloc (.cells #[.slice ra n rc] 24)) (.cells #[.slice none 0 0,.slice none 0 0] 101)⟩
  exact blk_below (heap_alloc_new w _) ((Grown.refl _).alloc _).below (by simp)
 try rw [←hwA]
 refine (HCu.out _).mono ?_
 rintro e w1 ⟨lv0,rfl,hIL,hB1⟩
 have HB1:Hid (Below w.heap.size w w1):=HGA.out.below.trans (hB1.mono HGA.out.size)
 have HBB:Hid (w1.heap[w.heap.size]? = some (.cells #[.slice ra n rc] 24 (0,0))∧w1.heap[w.heap.size+1]? = some (.cells #[.slice none 0 0,.slice none 0 0] 101 (0,0))):=⟨blk_below HBA.out.1 hB1 (blk_lt HBA.out.1),blk_below HBA.out.2 hB1 (blk_lt HBA.out.2)⟩
 have HP:Hid (PsR w1 (.slice ra n rc) rs):=HP0.out.below HB1.out (Nat.le_refl _)
 have HIL:Hid (IR w1 lv0 l0):=hIL
 obtain ⟨y1,y2,y3,hlv⟩:=hIL.sl
 subst hlv
 clear hIL hB1 HCu HP0 HBA HGA hwA
 go_wp2
 obtain ⟨op,hop⟩:∃ op,w1.heap.size=op:=⟨_,rfl⟩
 have HOP:Hid (w1.heap.size=op):=hop
 have H2:Hid (GR w1 op rs st l0 (w1.alloc (.cells #[.slice none 0 0,.slice none 0 0] 101)) (.slice none 0 0) (.slice none 0 0) (.slice y1 y2 y3) [] [] l0 ((wS rs st l0).toNat+1)):=by
  refine ⟨⟨by rw [←hop];exact heap_alloc_new _ _,OwnI.nil _ _,OwnS.nil _ _,HIL.out.grown ((Grown.refl _).alloc _),fun hl g hg => ?_,by rw [←hop];exact ((Grown.refl w1).alloc _).below⟩,GoOk.nil _ _,rfl,rfl,by simp,by omega,G3.nil _ _⟩
  obtain ⟨g',o,n',c',e,_,_,hd⟩:=ir_some HIL.out hl
  rw [e] at hg
  have e1:g'=g:=by simpa [Value.ownBlock] using hg
  have hlt:g<w1.heap.size:=by
   have:=World.block_lt_of_cell? _ _ (hd 0 (List.length_pos_iff.2 hl))
   rw [←e1];exact this
  exact ⟨by omega,by simp [Value.ownBlock],by simp [Value.ownBlock],by simp;omega⟩
 generalize w1.alloc (.cells #[.slice none 0 0,.slice none 0 0] 101)=w2 at H2 ⊢
 rw [hop]
 clear hop HIL
 go_loopg [5] ((wS rs st l0).toNat+1) (fun f v5 wr=>Hid (∃ uv sv d xs l,GR w1 op rs st l0 wr uv sv v5 d xs l f))
 case atStart=>exact ⟨_,_,_,_,_,H2.out⟩
 case round=>
  clear H2
  obtain ⟨uv,sv,d,xs,l,hR⟩:=hrel.out
  have HR:Hid (GR w1 op rs st l0 wr uv sv u5 d xs l gk):=hR
  clear hrel
  obtain ⟨ua,uc,huv⟩:=hR.g.own.sl
  obtain ⟨sa,sc,hsv⟩:=hR.g.ows.ssl
  have hblk:=hR.g.blk
  have hlens:=hR.lens HF.out HL0.out
  have hpb:=blk_below HBB.out.1 hR.g.bel (by have:=blk_lt HBB.out.1;have:=HOP.out;omega)
  have hrb:=blk_below HBB.out.2 hR.g.bel (by have:=blk_lt HBB.out.2;have:=HOP.out;omega)
  have c0:wr.cell? ⟨op,0,none⟩=some uv:=by rw [cell_of hblk];simp
  have c1:wr.cell? ⟨op,1,none⟩=some sv:=by rw [cell_of hblk];simp
  have cp:wr.cell? ⟨w.heap.size,0,none⟩=some (.slice ra n rc):=by rw [cell_of hpb];simp
  by_cases hl:l=[]
  · subst hl
    obtain ⟨A,cA,hA⟩:=ir_nil hR.g.lef
    subst hA
    have e0:wr.cell? ⟨w.heap.size+1,0,none⟩=some (.slice none 0 0):=by rw [cell_of hrb];simp
    have e1:wr.cell? ⟨w.heap.size+1,1,none⟩=some (.slice none 0 0):=by rw [cell_of hrb];simp
    have fz:∀ j,wr.frozen? ⟨w.heap.size+1,j,none⟩=false:=fun j=>free_of hrb
    have HRB:Hid (wr.heap[w.heap.size+1]? = some (.cells #[.slice none 0 0,.slice none 0 0] 101 (0,0))∧w.heap.size+1<op):=⟨hrb,by have:=blk_lt HBB.out.2;have:=HOP.out;omega⟩
    subst huv
    subst hsv
    clear hR hblk hlens hpb hrb
    go_wp2
    refine ret_dn rfl rfl (set_heap (set_heap HRB.out.1)) ?_
    have hlt:=HRB.out.2
    have ht:∀ b,op+1≤b→∀ (x y:Value),((wr.setCell ⟨w.heap.size+1,0,none⟩ x).setCell ⟨w.heap.size+1,1,none⟩ y).heap[b]? = wr.heap[b]? := fun b hb x y=>(turns_set _ _ _ _ b (by omega)).trans (turns_set _ _ _ _ b (by omega))
    refine ⟨_,_,d,xs,rfl,⟨_,_,_,rfl⟩,⟨_,_,_,rfl⟩,OwnI.le (HR.out.g.own.turn fun b hb=>ht b hb _ _) (by omega),?_,HR.out.ok,HR.out.lf,HR.out.dn,HR.out.at3,?_⟩
    · exact World.ownsRow.mono (HR.out.g.ows.turn fun b hb=>ht b hb _ _) (by omega)
    · have hb:=HB1.out.trans (HR.out.g.bel.mono (by have:=HB1.out.size;have:=HOP.out;omega))
      exact (hb.setCell (by show w.heap.size≤_;simp) _).setCell (by show w.heap.size≤_;simp) _
  · obtain ⟨lg,lo,ln,lc,hlv,hln,hlc,hld⟩:=ir_some hR.g.lef hl
    subst hlv
    have hl0:=List.length_pos_iff.2 hl
    have hcell0:=hld 0 hl0
    rw [Nat.add_zero] at hcell0
    have HNx:Hid (∀ V,Grown wr V→Calls Tryz.prog 92 #[.agg #[.slice ra n rc],uv,.slice (some ⟨lg,lo,none⟩) ln lc] V fun e w'=>e = .returned (.int .i64 (nxtK rs d l rs.length))∧Grown V w'):=fun V hg=>
     rnext_any _ uv _ rs d l V ((HP.out.below hR.g.bel (Nat.le_of_eq HOP.out)).grown hg) HF.out.ok HF.out.n (hR.g.own.ir.grown hg) (hR.g.lef.grown hg) (by omega) (own_wf hR.g.own) (by omega)
    have hnx:=nextS_ok HCk.out d hl0
    have h0:0<ln:=by omega
    have h0I:(0:Int)<(ln:Int):=by omega
    have h0d:decide (0<ln)=true:=by simpa using h0
    have h1I:(1:Int)≤(ln:Int):=by omega
    have hlcI:(ln:Int)≤(lc:Int):=by omega
    have hlnB:(ln:Int)≤32000000:=by omega
    subst huv
    subst hsv
    obtain ⟨dn,hdn⟩:∃ dn,d.length=dn:=⟨_,rfl⟩
    have hdnB:(dn:Int)≤512000000:=by omega
    have HDN:Hid (d.length=dn∧l.length=ln∧xs.length≤32000000):=⟨hdn,hln,hlens.1⟩
    rw [hdn] at HR HNx c0
    clear hR hblk hlens hpb hrb hld hdn hlc
    rcases hnx with ⟨h1,hok⟩ | ⟨i,hi,h1,h2,h3,hok⟩
    · have HH1:=Hid.mk' h1
      rw [h1] at HNx
      have HOK:=Hid.mk' hok
      clear h1 hok
      go_wp2_with fail
      refine (HNx.out _ (Grown.refl _)).mono ?_
      rintro e w3 ⟨rfl,hG3⟩
      have HG3:Hid (Grown wr w3):=hG3
      have d0:=hG3.cellv c0
      have dl:=hG3.cellv hcell0
      clear hG3 HNx c0 c1 cp hcell0
      go_upto_region 7 with fail
      obtain ⟨w4,hw4⟩:∃ w4,w4=w3.alloc (.cells #[.int .i64 (-1),.int .i64 dn,.int .i64 ln,.int .i64 1,.int .i64 1,.int .i64 0] 130):=⟨_,rfl⟩
      have HG4:Hid (Grown w3 w4):=by show Grown _ _;rw [hw4];exact (Grown.refl _).alloc _
      have HSB:Hid (w4.heap[w3.heap.size]? = some (.cells (fs1 ⟨-1,dn,ln,1,1,0⟩).toArray 130 (0,0))):=by show _=_;rw [hw4];exact heap_alloc_new _ _
      rw [←hw4]
      have HGS:Hid (∀ V,Grown w4 V→GS w1 op V (.slice ua dn uc) (.slice sa xs.length sc) (.slice (some ⟨lg,lo,none⟩) ln lc) d xs l):=fun V hg=>HR.out.g.grown (HG3.out.trans (HG4.out.trans hg))
      have d0:=HG4.out.cellv d0
      have dl:=HG4.out.cellv dl
      clear hw4
      obtain ⟨x0,hx0⟩:∃ x0,l[0]=x0:=⟨_,rfl⟩
      rw [hx0] at dl
      go_cut [] (fun wx=>Hid (∃ uv',IsSl uv'∧GS w1 op wx uv' (.slice sa xs.length sc) (.slice (some ⟨lg,lo,none⟩) ln lc) (d++[x0]) xs l∧wx.heap[w3.heap.size]? = some (.cells (fs1 ⟨-1,dn,ln,1,1,0⟩).toArray 130 (0,0))))
      case first=>
       have d0':=fun o=>cell_up d0 o
       have hdl:d.length+1≤1000000000:=by have:=HDN.out.1;omega
       have HUP:Hid (∀ V uv' w2,Grown w4 V→UP w1 op V (.slice ua dn uc) (.slice sa xs.length sc) (.slice (some ⟨lg,lo,none⟩) ln lc) (d++[x0]) xs l uv' w2→∃ uv'',IsSl uv''∧GS w1 op (w2.setCell ⟨op,0,none⟩ uv') uv'' (.slice sa xs.length sc) (.slice (some ⟨lg,lo,none⟩) ln lc) (d++[x0]) xs l∧(w2.setCell ⟨op,0,none⟩ uv').heap[w3.heap.size]? = some (.cells (fs1 ⟨-1,dn,ln,1,1,0⟩).toArray 130 (0,0))):=fun V uv' w2 hg hu=>by
        refine ⟨uv',hu.sl,hu.gs,?_⟩
        have hop:op<w3.heap.size:=by have:=blk_lt (HR.out.g.grown HG3.out).blk;exact this
        have h5:=blk_lt HSB.out
        rw [hu.k w3.heap.size (by have:=hg.size;omega) (by omega) (fun e=>by have:=(HR.out.g.grown HG3.out).apart.2.2.2.1 _ e;omega)]
        exact blk_below HSB.out hg.below h5
       go_region_law (refine step_unit rfl (.tmp 34) (.tmp 38) rfl rfl (HGS.out _ (by (repeat (first | exact Grown.refl _ | refine Grown.alloc ?_ _ | refine Grown.drew ?_ | refine Grown.drewN ?_ _ | refine Grown.quiet ?_ _ _)))) _ _ x0 rfl (by (first | (simp;done) | exact new_cell _ _ _ _ rfl)) hdl ?_;intro uv2 w2 hu2;have HU2:Hid (∃ uv'',IsSl uv''∧GS w1 op (w2.setCell ⟨op,0,none⟩ uv2) uv'' (.slice sa xs.length sc) (.slice (some ⟨lg,lo,none⟩) ln lc) (d++[x0]) xs l∧(w2.setCell ⟨op,0,none⟩ uv2).heap[w3.heap.size]? = some (.cells (fs1 ⟨-1,dn,ln,1,1,0⟩).toArray 130 (0,0))):=HUP.out _ _ _ (by (repeat (first | exact Grown.refl _ | refine Grown.alloc ?_ _ | refine Grown.drew ?_ | refine Grown.drewN ?_ _ | refine Grown.quiet ?_ _ _))) hu2;have cu2:=hu2.c;have fu2:=hu2.f;obtain ⟨z1,z2,z3,hz⟩:=hu2.sl;subst hz;clear hu2)
       all_goals (go_wp2;go_meet;exact HU2)
      case rest=>
       obtain ⟨uv',⟨z1,z2,z3,hz⟩,hgs,hsb⟩:=hcut.out
       subst hz
       have HGW:Hid (GS w1 op wc (.slice z1 z2 z3) (.slice sa xs.length sc) (.slice (some ⟨lg,lo,none⟩) ln lc) (d++[x0]) xs l):=hgs
       have c1:wc.cell? ⟨op,1,none⟩=some (.slice sa xs.length sc):=by rw [cell_of hgs.blk];simp
       have b0:wc.cell? ⟨w3.heap.size,0,none⟩=some (.int .i64 (-1)):=by rw [cell_of hsb];simp [fs1]
       have b1:wc.cell? ⟨w3.heap.size,1,none⟩=some (.int .i64 dn):=by rw [cell_of hsb];simp [fs1]
       have b2:wc.cell? ⟨w3.heap.size,2,none⟩=some (.int .i64 ln):=by rw [cell_of hsb];simp [fs1]
       have b3:wc.cell? ⟨w3.heap.size,3,none⟩=some (.int .i64 1):=by rw [cell_of hsb];simp [fs1]
       have b4:wc.cell? ⟨w3.heap.size,4,none⟩=some (.int .i64 1):=by rw [cell_of hsb];simp [fs1]
       have b5:wc.cell? ⟨w3.heap.size,5,none⟩=some (.int .i64 0):=by rw [cell_of hsb];simp [fs1]
       obtain ⟨l',hl'⟩:∃ l',l=x0::l':=⟨l.drop 1,by
        have:=List.drop_eq_getElem_cons hl0
        rw [List.drop_zero] at this
        rw [←hx0]
        exact this⟩
       have hIc:=hgs.lef
       rw [hl'] at hIc
       obtain ⟨g',o',n',c',hv',hq1,hq2,hq3,hT,hU⟩:=ir_cons hIc
       injection hv' with hv1 hv2 hv3
       injection hv1 with hv1
       injection hv1 with hv1 hv4
       subst hv1 hv2 hv3 hv4
       clear hq1 hq2 hq3
       have hlapL:=hgs.lap hl lg rfl
       have HLE:Hid (∀ lv',IR wc lv' l'→(lv'.ownBlock=some lg)→∀ ob,GS w1 op (wc.alloc ob) (.slice z1 z2 z3) (.slice sa xs.length sc) lv' (d++[x0]) xs l'):=fun lv' hi hb ob=>(hgs.left hi (fun _ g hg=>by rw [hb] at hg;injection hg with hg;subst hg;exact hlapL)).grown ((Grown.refl _).alloc ob)
       have HFIN:Hid (∀ sv2 w5 lv' V,SP w1 op V (.slice z1 z2 z3) (.slice sa xs.length sc) lv' (d++[x0]) (xs++[⟨-1,dn,ln,1,1,0⟩]) l' sv2 w5→∃ uv sv d xs l,GR w1 op rs st l0 (w5.setCell ⟨op,1,none⟩ sv2) uv sv lv' d xs l (gk - 1)):=fun sv2 w5 lv' V hsp=>by
        have hok2:OkStp rs l ⟨-1,dn,ln,1,1,0⟩:=by have:=HOK.out;rw [HDN.out.1,HDN.out.2.1] at this;exact this
        have hsl:stepL rs l ⟨-1,dn,ln,1,1,0⟩=l':=by unfold stepL;rw [if_pos (show (-1:Int)<0 by decide),hl'];rfl
        have hlt:=hok2.light HF.out
        rw [hsl] at hlt
        have hm:=HR.out.m
        have hd:=HR.out.dn
        have h16:=HR.out.d16
        have h3:=HR.out.at3.snoc hl
        obtain ⟨e1,e2,e3⟩:=stp_none HH1.out
        have t1:l.take 1=[x0]:=by rw [hl'];rfl
        have t2:l.drop 1=l':=by rw [hl'];rfl
        rw [e1,e2,e3,HDN.out.1,HDN.out.2.1,t1,t2] at h3
        refine ⟨_,_,_,_,_,hsp.gs,HR.out.ok.snoc (by rw [HR.out.lf];exact hok2),by rw [lft_snoc,HR.out.lf];exact hsl,by rw [sumA_snoc,List.length_append];simp;omega,by simp;omega,by omega,h3⟩
       have hxl:xs.length+1≤1000000000:=by have:=HDN.out.2.2;omega
       have HMS:Hid (gk - 1<gk):=by
        have hm:=HR.out.m
        have:=(wS_len HF.out l).1
        show _<_
        omega
       have HT:=Hid.mk' hT
       have HU:=Hid.mk' hU
       clear hgs hsb hcut hIc hT hU HR HOK hl'
       by_cases hc1:lc=1
       · have hI:=HU.out hc1
         have HGL:=Hid.mk' (HLE.out _ hI rfl)
         subst hc1
         have hln1:(1:Nat)=ln:=by omega
         clear hln
         subst hln1
         clear hI HU HT
         go_wp2_with (at_builtin;go_must (refine push_step rfl _ _ rfl rfl (HGL.out _) _ _ ⟨-1,dn,((1:Nat):Int),1,1,0⟩ rfl (heap_alloc_new _ _) hxl ?_;intro sv2 w5 hs2;have HS2:=Hid.mk' (HFIN.out _ _ _ _ hs2);have cs2:=hs2.c;have fs2:=hs2.f;obtain ⟨t1,t2,t3,ht⟩:=hs2.sl;subst ht;clear hs2))
         try go_wp2
         go_roundg (gk - 1)
         case measure=>exact HMS.out
         case rel=>exact HS2
       · have hI:=HT.out hc1
         have HGL:=Hid.mk' (HLE.out _ hI rfl)
         have hc2:((1:Int) == (lc:Int))=false:=by simp;omega
         have hc3:¬ 1=lc:=by omega
         clear hI HU HT
         go_wp2_with (at_builtin;go_must (refine push_step rfl _ _ rfl rfl (HGL.out _) _ _ ⟨-1,dn,ln,1,1,0⟩ rfl (heap_alloc_new _ _) hxl ?_;intro sv2 w5 hs2;have HS2:=Hid.mk' (HFIN.out _ _ _ _ hs2);have cs2:=hs2.c;have fs2:=hs2.f;obtain ⟨t1,t2,t3,ht⟩:=hs2.sl;subst ht;clear hs2))
         try go_wp2
         go_roundg (gk - 1)
         case measure=>exact HMS.out
         case rel=>exact HS2
    · have HH1:=Hid.mk' h1
      rw [h1] at HNx
      have HOK:=Hid.mk' hok
      have hib:(i:Int)<(n:Int):=by have:=HN.out;omega
      have hi0:(0:Int)≤(i:Int):=by omega
      have hin:¬ (i:Int)<0:=by omega
      have HLY:=Hid.mk' h3
      obtain ⟨a',c',e',_,hPr⟩:=HP.out
      obtain ⟨g,o,ha',hPd⟩:=hPr.resolve_left (fun e=>by rw [e] at hi;simp at hi)
      injection e' with e1 e2 e3
      clear e2 e3
      rw [ha'] at e1
      subst e1
      obtain ⟨av,kv,pv,rv,q0,q1,q2,q3,q4,q5,q6,hRR⟩:=hPd i hi
      have hOk:=HF.out.ok _ (List.getElem_mem hi)
      obtain ⟨r,hr⟩:∃ r,rs[i]'hi=r:=⟨_,rfl⟩
      rw [hr] at hRR hOk q0 q4 q6 h2 HLY HOK
      have HRR:=Hid.mk' hRR
      have HOk:=Hid.mk' hOk
      obtain ⟨ka,kc,hkv,hx1,hx2⟩:=HRR.out.k
      clear hx1 hx2
      obtain ⟨kn,hkn⟩:∃ kn,r.key.length=kn:=⟨_,rfl⟩
      rw [hkn] at hkv h2 HLY HOK
      subst hkv
      obtain ⟨a1,n1,c1',rfl⟩:=HRR.out.a.sl
      obtain ⟨a3,n3,c3,rfl⟩:=HRR.out.p.sl
      obtain ⟨a5,n5,c5,rfl⟩:=HRR.out.r.sl
      obtain ⟨xb,hxb⟩:∃ xb,r.bg=xb:=⟨_,rfl⟩
      obtain ⟨xe,hxe⟩:∃ xe,r.en=xe:=⟨_,rfl⟩
      obtain ⟨xc,hxc⟩:∃ xc,r.cu=xc:=⟨_,rfl⟩
      rw [hxb] at q0
      rw [hxe] at q4
      rw [hxc] at q6
      have HRE:Hid (rs[i]'hi=r∧r.key.length=kn∧r.bg=xb∧r.en=xe∧r.cu=xc):=⟨hr,hkn,hxb,hxe,hxc⟩
      have hknI:(kn:Int)≤(ln:Int):=by have:=HDN.out.2.1;omega
      have hknB:(kn:Int)≤8:=by have:=HOk.out.k8;omega
      have hkn0:(0:Int)<(kn:Int):=by have:=HOk.out.k0;omega
      have hknC:(kn:Int)≤(lc:Int):=by omega
      have HQ:Hid (∀ V,Grown wr V→V.cell? ⟨g,o+i*7,none⟩=some (.bool xb)∧V.cell? ⟨g,o+i*7+1,none⟩=some (.slice a1 n1 c1')∧V.cell? ⟨g,o+i*7+2,none⟩=some (.slice ka kn kc)∧V.cell? ⟨g,o+i*7+3,none⟩=some (.slice a3 n3 c3)∧V.cell? ⟨g,o+i*7+4,none⟩=some (.bool xe)∧V.cell? ⟨g,o+i*7+5,none⟩=some (.slice a5 n5 c5)∧V.cell? ⟨g,o+i*7+6,none⟩=some (.int .i64 xc)):=fun V hg=>by
       have hb:=HR.out.g.bel
       have hz:w1.heap.size≤op:=Nat.le_of_eq HOP.out
       exact ⟨hg.cellv (cell_below q0 hb hz),hg.cellv (cell_below q1 hb hz),hg.cellv (cell_below q2 hb hz),hg.cellv (cell_below q3 hb hz),hg.cellv (cell_below q4 hb hz),hg.cellv (cell_below q5 hb hz),hg.cellv (cell_below q6 hb hz)⟩
      clear h1 hok h2 h3 hr hkn hxb hxe hxc q0 q1 q2 q3 q4 q5 q6 hRR hOk hPr hPd ha'
      go_wp2_with fail
      refine (HNx.out _ (Grown.refl _)).mono ?_
      rintro e w3 ⟨rfl,hG3⟩
      have HG3:Hid (Grown wr w3):=hG3
      have d0:=hG3.cellv c0
      have dp:=hG3.cellv cp
      clear hG3 HNx c0 c1 cp hcell0
      obtain ⟨w4,hw4⟩:∃ w4,w4=w3.alloc (.cells #[.int .i64 i,.int .i64 dn,.int .i64 ln,.int .i64 1,.int .i64 1,.int .i64 0] 130):=⟨_,rfl⟩
      have HG4:Hid (Grown wr w4):=by show Grown _ _;rw [hw4];exact HG3.out.alloc _
      go_upto_region 10 with fail
      rw [←hw4]
      have dp4:w4.cell? ⟨w.heap.size,0,none⟩=some (.slice (some ⟨g,o,none⟩) n rc):=by rw [hw4];exact cell_up dp _
      have HS4:Hid (w4.heap[w3.heap.size]? = some (.cells #[.int .i64 i,.int .i64 dn,.int .i64 ln,.int .i64 1,.int .i64 1,.int .i64 0] 130 (0,0))∧w3.heap.size<w4.heap.size):=⟨by rw [hw4];exact heap_alloc_new _ _,by rw [hw4];simp⟩
      clear hw4 dp d0
      obtain ⟨z0,z1,z2,z3,z4,z5,z6⟩:=HQ.out w4 HG4.out
      go_upto_region 11 with fail
      obtain ⟨w5,hw5⟩:∃ w5,w5=w4.alloc (.cells #[.bool xb,.slice a1 n1 c1',.slice ka kn kc,.slice a3 n3 c3,.bool xe,.slice a5 n5 c5,.int .i64 xc] 60):=⟨_,rfl⟩
      have HS5:Hid (w5.heap[w3.heap.size]? = some (.cells #[.int .i64 i,.int .i64 dn,.int .i64 ln,.int .i64 1,.int .i64 1,.int .i64 0] 130 (0,0))∧w5.heap[w4.heap.size]? = some (.cells #[.bool xb,.slice a1 n1 c1',.slice ka kn kc,.slice a3 n3 c3,.bool xe,.slice a5 n5 c5,.int .i64 xc] 60 (0,0))∧Grown wr w5):=by
       refine ⟨?_,by rw [hw5];exact heap_alloc_new _ _,by rw [hw5];exact HG4.out.alloc _⟩
       rw [hw5]
       exact blk_below HS4.out.1 ((Grown.refl w4).alloc _).below HS4.out.2
      rw [←hw5]
      clear hw5 z0 z1 z2 z3 z4 z5 z6 dp4
      obtain ⟨sb,hsb⟩:∃ sb,w3.heap.size=sb:=⟨_,rfl⟩
      obtain ⟨rb,hrb⟩:∃ rb,w4.heap.size=rb:=⟨_,rfl⟩
      rw [hsb,hrb]
      rw [hsb,hrb] at HS5
      have HSR:Hid (sb<rb∧wr.heap.size≤sb):=⟨by have:=HS4.out.2;omega,by have:=HG3.out.size;omega⟩
      have f3:w5.cell? ⟨sb,3,none⟩=some (.int .i64 1):=by rw [cell_of HS5.out.1];simp
      have ff:w5.frozen? ⟨sb,3,none⟩=false:=free_of HS5.out.1
      have k2:w5.cell? ⟨rb,2,none⟩=some (.slice ka kn kc):=by rw [cell_of HS5.out.2.1];simp
      clear hsb hrb HS4 HG3 HG4
      go_upto_region 12 with fail
      obtain ⟨w6,hw6⟩:∃ w6,w6=w5.setCell ⟨sb,3,none⟩ (.int .i64 kn):=⟨_,rfl⟩
      have HGS6:Hid (GS w1 op w6 (.slice ua dn uc) (.slice sa xs.length sc) (.slice (some ⟨lg,lo,none⟩) ln lc) d xs l∧w6.heap[sb]? = some (.cells #[.int .i64 i,.int .i64 dn,.int .i64 ln,.int .i64 kn,.int .i64 1,.int .i64 0] 130 (0,0))∧w6.heap[rb]? = some (.cells #[.bool xb,.slice a1 n1 c1',.slice ka kn kc,.slice a3 n3 c3,.bool xe,.slice a5 n5 c5,.int .i64 xc] 60 (0,0))∧Below wr.heap.size wr w6∧sb<w6.heap.size):=by
       have hg5:=HR.out.g.grown HS5.out.2.2
       have hs:=HSR.out
       have hap:=HR.out.g.apart
       have hopb:=blk_lt HR.out.g.blk
       rw [hw6]
       have ht:∀ b,b≠sb→(w5.setCell ⟨sb,3,none⟩ (.int .i64 kn)).heap[b]? = w5.heap[b]? := fun b hb=>turns_set _ _ _ _ b hb
       refine ⟨⟨(ht op (by omega)).trans hg5.blk,?_,?_,ir_turn hg5.lef fun hl g hg=>ht g (by have:=(HR.out.g.lap hl g hg).2.2.2;omega),fun hl g hg => ?_,hg5.bel.setCell (by show op≤sb;omega) _⟩,by rw [set_heap HS5.out.1];rfl,(ht rb (by omega)).trans HS5.out.2.1,HS5.out.2.2.below.setCell (by show _≤sb;omega) _,by have:=blk_lt HS5.out.1;simpa using this⟩
       · refine ⟨hg5.own.1,?_⟩
         rcases hg5.own.2 with h1 | ⟨g,cap,cur,h1,h2,h3,h4⟩
         · exact .inl h1
         · exact .inr ⟨g,cap,cur,h1,h2,(ht g (by have:=hap.2.2.2.1 g (by rw [h1];rfl);omega)).trans h3,h4⟩
       · refine ⟨hg5.ows.1,?_⟩
         rcases hg5.ows.2 with h1 | ⟨g,cap,cur,h1,h2,h3,h4⟩
         · exact .inl h1
         · exact .inr ⟨g,cap,cur,h1,h2,(ht g (by have:=hap.2.2.2.2 g (by rw [h1];rfl);omega)).trans h3,h4⟩
       · obtain ⟨p1,p2,p3,p4⟩:=hg5.lap hl g hg
         exact ⟨p1,p2,p3,by simpa using p4⟩
      rw [←hw6]
      clear hw6 f3 ff k2 HS5
      have HLd:Hid (∀ V,Grown w6 V→Calls Tryz.prog 93 #[.agg #[.bool xb,.slice a1 n1 c1',.slice ka kn kc,.slice a3 n3 c3,.bool xe,.slice a5 n5 c5,.int .i64 xc],.slice (some ⟨lg,lo,none⟩) kn lc] V fun e w'=>∃ v1 v2,e = .returned (.tuple #[v1,v2])∧FarI w' w6.heap.size v1 ((outs r (l.take kn)).take r.cu.toNat)∧FarI w' w6.heap.size v2 ((outs r (l.take kn)).drop r.cu.toNat)∧Below w6.heap.size w6 w'∧SomeS v1∧SomeS v2):=fun V hg=>by
       have h6:=HGS6.out.1
       have:=rlaid2_walk r (.slice a1 n1 c1') (.slice ka kn kc) (.slice a3 n3 c3) (.slice a5 n5 c5) (.slice (some ⟨lg,lo,none⟩) kn lc) (l.take kn) V ((HRR.out.below h6.bel (Nat.le_of_eq HOP.out)).grown hg) ((ir_take h6.lef (by omega)).grown hg) HLY.out
       rw [HRE.out.2.2.1,HRE.out.2.2.2.1,HRE.out.2.2.2.2] at this
       rw [HRE.out.2.2.2.2]
       refine this.mono ?_
       rintro e w' ⟨v1,v2,h1,h2,h3,h4,h5⟩
       exact ⟨v1,v2,h1,h2.le hg.size,h3.le hg.size,hg.below.trans (h4.mono hg.size),h5⟩
      have s3:w6.cell? ⟨sb,3,none⟩=some (.int .i64 kn):=by rw [cell_of HGS6.out.2.1];simp
      have t0:w6.cell? ⟨rb,0,none⟩=some (.bool xb):=by rw [cell_of HGS6.out.2.2.1];simp
      have t1:w6.cell? ⟨rb,1,none⟩=some (.slice a1 n1 c1'):=by rw [cell_of HGS6.out.2.2.1];simp
      have t2:w6.cell? ⟨rb,2,none⟩=some (.slice ka kn kc):=by rw [cell_of HGS6.out.2.2.1];simp
      have t3:w6.cell? ⟨rb,3,none⟩=some (.slice a3 n3 c3):=by rw [cell_of HGS6.out.2.2.1];simp
      have t4:w6.cell? ⟨rb,4,none⟩=some (.bool xe):=by rw [cell_of HGS6.out.2.2.1];simp
      have t5:w6.cell? ⟨rb,5,none⟩=some (.slice a5 n5 c5):=by rw [cell_of HGS6.out.2.2.1];simp
      have t6:w6.cell? ⟨rb,6,none⟩=some (.int .i64 xc):=by rw [cell_of HGS6.out.2.2.1];simp
      obtain ⟨La,hLa⟩:∃ La,(outs r (l.take kn)).take r.cu.toNat=La:=⟨_,rfl⟩
      obtain ⟨Ba,hBa⟩:∃ Ba,(outs r (l.take kn)).drop r.cu.toNat=Ba:=⟨_,rfl⟩
      rw [hLa,hBa] at HLd
      have HLB:Hid ((outs r (l.take kn)).take r.cu.toNat=La∧(outs r (l.take kn)).drop r.cu.toNat=Ba):=⟨hLa,hBa⟩
      clear hLa hBa
      go_cut [10,11] (fun s10 s11 wx=>Hid (SomeS s10∧SomeS s11∧FarI wx w6.heap.size s10 La∧FarI wx w6.heap.size s11 Ba∧Below w6.heap.size w6 wx))
      case first=>
       go_region_with (go_at_call 93;go_must (refine (HLd.out _ (by (repeat (first | exact Grown.refl _ | refine Grown.alloc ?_ _ | refine Grown.drew ?_ | refine Grown.drewN ?_ _ | refine Grown.quiet ?_ _ _)))).mono ?_;rintro e w7 ⟨v1,v2,rfl,h1,h2,h3,h4,h5⟩;have HV:Hid (FarI w7 w6.heap.size v1 La∧FarI w7 w6.heap.size v2 Ba∧Below w6.heap.size w6 w7):=⟨h1,h2,h3⟩;obtain ⟨m1,m2,m3,m4,hv1⟩:=h4;obtain ⟨m5,m6,m7,m8,hv2⟩:=h5;subst hv1;subst hv2;clear h1 h2 h3))
       all_goals (go_wp2;go_meet;exact ⟨⟨_,_,_,_,rfl⟩,⟨_,_,_,_,rfl⟩,HV.out.1,HV.out.2.1,HV.out.2.2⟩)
      case rest=>
       clear s3 t0 t1 t2 t3 t4 t5 t6 HLd
       obtain ⟨⟨g1,o1,n1a,c1a,hs10⟩,⟨g2,o2,n2a,c2a,hs11⟩,hF1,hF2,hB7⟩:=hcut.out
       subst hs10
       subst hs11
       have hn1:La.length=n1a:=(ir_len hF1.ir).1
       have hn2:Ba.length=n2a:=(ir_len hF2.ir).1
       have HNN:Hid (La.length=n1a∧Ba.length=n2a):=⟨hn1,hn2⟩
       have HLen:Hid (n1a≤16∧n2a≤16∧(n1a:Int)=xc∧n2a=(backP r).length):=by
        have ho:(outs r (l.take kn)).length=r.res.length:=by simp [outs]
        have e1:=HLB.out.1
        have e2:=HLB.out.2
        have q1:=HOk.out.r16
        have q2:=HOk.out.c0
        have q3:=HOk.out.c1
        have q4:=HRE.out.2.2.2.2
        have e3:La.length=r.cu.toNat:=by rw [←e1,List.length_take,ho];omega
        have e4:Ba.length=r.res.length - r.cu.toNat:=by rw [←e2,List.length_drop,ho]
        have e5:(backP r).length=r.res.length - r.cu.toNat:=by simp [backP]
        exact ⟨by omega,by omega,by omega,by omega⟩
       have hn1I:(n1a:Int)≤16:=by have:=HLen.out.1;omega
       have hn2I:(n2a:Int)≤16:=by have:=HLen.out.2.1;omega
       have hG7:=HGS6.out.1.low hB7
       have hs7:=blk_below HGS6.out.2.1 hB7 HGS6.out.2.2.2.2
       have s4:wc.cell? ⟨sb,4,none⟩=some (.int .i64 1):=by rw [cell_of hs7];simp
       have s4f:wc.frozen? ⟨sb,4,none⟩=false:=free_of hs7
       have s5:∀ u,(wc.setCell ⟨sb,4,none⟩ u).cell? ⟨sb,5,none⟩=some (.int .i64 0):=fun u=>by rw [cell_of (set_heap hs7)];simp
       have s5f:∀ u,(wc.setCell ⟨sb,4,none⟩ u).frozen? ⟨sb,5,none⟩=false:=fun u=>free_of (set_heap hs7)
       have HSBf:Hid (op<sb∧(Value.slice ua dn uc).ownBlock≠some sb∧(Value.slice sa xs.length sc).ownBlock≠some sb∧lg<sb∧sb<w6.heap.size∧wr.heap.size≤sb):=by
        have hap:=HR.out.g.apart
        have hs:=HSR.out
        have hopb:=blk_lt HR.out.g.blk
        exact ⟨by omega,fun e=>by have:=hap.2.2.2.1 sb e;omega,fun e=>by have:=hap.2.2.2.2 sb e;omega,by have:=(HR.out.g.lap hl lg rfl).2.2.2;omega,HGS6.out.2.2.2.2,hs.2⟩
       have H8:Hid (∀ w8,w8=(wc.setCell ⟨sb,4,none⟩ (.int .i64 n1a)).setCell ⟨sb,5,none⟩ (.int .i64 n2a)→GS w1 op w8 (.slice ua dn uc) (.slice sa xs.length sc) (.slice (some ⟨lg,lo,none⟩) ln lc) d xs l∧w8.heap[sb]? = some (.cells (fs1 ⟨i,dn,ln,kn,n1a,n2a⟩).toArray 130 (0,0))∧FarI w8 w6.heap.size (.slice (some ⟨g1,o1,none⟩) n1a c1a) La∧FarI w8 w6.heap.size (.slice (some ⟨g2,o2,none⟩) n2a c2a) Ba):=fun w8 hw8=>by
        have hs:=HSBf.out
        have h4:l≠[]→(Value.slice (some ⟨lg,lo,none⟩) ln lc).ownBlock≠some sb:=fun _ e=>by have:lg=sb:=by simpa [Value.ownBlock] using e
                                                                                           omega
        have ht:∀ b,w6.heap.size≤b→w8.heap[b]? = wc.heap[b]? := fun b hb=>by rw [hw8];exact (turns_set _ _ _ _ b (by omega)).trans (turns_set _ _ _ _ b (by omega))
        refine ⟨?_,by rw [hw8,set_heap (set_heap hs7)];rfl,hF1.turn ht,hF2.turn ht⟩
        rw [hw8]
        exact (hG7.aside 4 _ hs.1 hs.2.1 hs.2.2.1 h4).aside 5 _ hs.1 hs.2.1 hs.2.2.1 h4
       clear hcut hF1 hF2 hB7 hn1 hn2 hG7 hs7 HGS6
       go_upto_region 15 with fail
       obtain ⟨w8,hw8⟩:∃ w8,w8=(wc.setCell ⟨sb,4,none⟩ (.int .i64 n1a)).setCell ⟨sb,5,none⟩ (.int .i64 n2a):=⟨_,rfl⟩
       have HW8:=Hid.mk' (H8.out w8 hw8)
       rw [←hw8]
       clear hw8 H8 s4 s4f s5 s5f
       have c8:w8.cell? ⟨op,0,none⟩=some (.slice ua dn uc):=by rw [cell_of HW8.out.1.blk];simp
       have hdl:d.length+La.length≤1000000000:=by have:=HDN.out.1;have:=HNN.out.1;have:=HLen.out.1;omega
       go_upto_region 16 with (at_builtin;go_must (refine push_units rfl _ _ rfl rfl HW8.out.1 La _ rfl HW8.out.2.2.1.ir hdl ?_;intro uv2 w9 hu;have HU:=Hid.mk' hu;have cu:=hu.c;have fu:=hu.f;obtain ⟨v1,v2,v3,hv⟩:=hu.sl;subst hv;clear hu))
       obtain ⟨wX,hwX⟩:∃ wX,wX=w9.setCell ⟨op,0,none⟩ (.slice v1 v2 v3):=⟨_,rfl⟩
       have HX:Hid (GS w1 op wX (.slice v1 v2 v3) (.slice sa xs.length sc) (.slice (some ⟨lg,lo,none⟩) ln lc) (d++La) xs l∧wX.heap[sb]? = some (.cells (fs1 ⟨i,dn,ln,kn,n1a,n2a⟩).toArray 130 (0,0))∧IR wX (.slice (some ⟨g2,o2,none⟩) n2a c2a) Ba):=by
        have hs:=HSBf.out
        have hu:=HU.out
        rw [hwX]
        refine ⟨hu.gs,?_,ir_turn HW8.out.2.2.2.ir fun hne g hg => ?_⟩
        · rw [hu.k sb (blk_lt HW8.out.2.1) (by omega) hs.2.1];exact HW8.out.2.1
        · have e1:g2=g:=by simpa [Value.ownBlock] using hg
          obtain ⟨a',c',e',_,hr⟩:=HW8.out.2.2.2
          obtain ⟨g',o',h1,h2,h3⟩:=hr.resolve_left hne
          injection e' with e'
          rw [h1] at e'
          injection e' with e'
          injection e' with e'
          have hcl:=World.block_lt_of_cell? _ _ (h3 0 (List.length_pos_iff.2 hne))
          have hcl':g'<w8.heap.size:=hcl
          exact hu.k g (by omega) (by omega) (fun e=>by have:=HR.out.g.apart.2.2.2.1 g e;omega)
       rw [←hwX]
       clear hwX HU cu fu HW8 c8
       have HCL:Hid (∀ V,Below wX.heap.size wX V→V.cell? ⟨sb,0,none⟩=some (.int .i64 i)∧V.cell? ⟨sb,1,none⟩=some (.int .i64 dn)∧V.cell? ⟨sb,2,none⟩=some (.int .i64 ln)∧V.cell? ⟨sb,3,none⟩=some (.int .i64 kn)∧V.cell? ⟨sb,4,none⟩=some (.int .i64 n1a)∧V.cell? ⟨sb,5,none⟩=some (.int .i64 n2a)∧V.cell? ⟨op,1,none⟩=some (.slice sa xs.length sc)):=fun V hb=>by
        have hbl:=blk_below HX.out.2.1 hb (blk_lt HX.out.2.1)
        have hop:=blk_below HX.out.1.blk hb (blk_lt HX.out.1.blk)
        refine ⟨?_,?_,?_,?_,?_,?_,?_⟩
        · rw [cell_of hbl];simp [fs1]
        · rw [cell_of hbl];simp [fs1]
        · rw [cell_of hbl];simp [fs1]
        · rw [cell_of hbl];simp [fs1]
        · rw [cell_of hbl];simp [fs1]
        · rw [cell_of hbl];simp [fs1]
        · rw [cell_of hop];simp
       have HGEN:Hid (∀ V lv',Below wX.heap.size wX V→IR V lv' (Ba++l.drop kn)→(∀ g,lv'.ownBlock=some g→(g=lg∨wX.heap.size≤g)∧g<V.heap.size)→∀ ob,GS w1 op (V.alloc ob) (.slice v1 v2 v3) (.slice sa xs.length sc) lv' (d++La) xs (Ba++l.drop kn)):=fun V lv' hb hi hbk ob=>by
        refine ((HX.out.1.low hb).left hi fun _ g hg => ?_).grown ((Grown.refl _).alloc ob)
        obtain ⟨h1,h2⟩:=hbk g hg
        rcases h1 with h1 | h1
        · subst h1
          obtain ⟨p1,p2,p3,p4⟩:=HX.out.1.lap hl g rfl
          exact ⟨p1,p2,p3,h2⟩
        · have hap:=HX.out.1.apart
          have hop:=blk_lt HX.out.1.blk
          exact ⟨by omega,fun e=>by have:=hap.2.2.2.1 g e;omega,fun e=>by have:=hap.2.2.2.2 g e;omega,h2⟩
       have HFIN:Hid (∀ sv2 w5 lv' V,SP w1 op V (.slice v1 v2 v3) (.slice sa xs.length sc) lv' (d++La) (xs++[⟨i,dn,ln,kn,n1a,n2a⟩]) (Ba++l.drop kn) sv2 w5→∃ uv sv d xs l,GR w1 op rs st l0 (w5.setCell ⟨op,1,none⟩ sv2) uv sv lv' d xs l (gk - 1)):=fun sv2 w5 lv' V hsp=>by
        have hln':=HLen.out
        have hre:=HRE.out
        have hok2:OkStp rs l ⟨i,dn,ln,kn,n1a,n2a⟩:=by
         rcases HOK.out with ⟨h1,_⟩ | ⟨i',hi',h1,h2,h3,h4,h5⟩
         · have h1':(i:Int) = -1:=h1
           omega
         · have e1:i'=i:=by have h1':(i:Int)=(i':Int):=h1;omega
           subst e1
           exact .inr ⟨i',hi',rfl,by show (kn:Int)=_;rw [hre.1,hre.2.1],h3,h4,by show (n1a:Int)=_;rw [hre.1];omega⟩
        have hsl:stepL rs l ⟨i,dn,ln,kn,n1a,n2a⟩=Ba++l.drop kn:=by
         rw [stepL_rule hi rfl (by show (kn:Int)=_;rw [hre.1,hre.2.1]),hre.1,hre.2.1,←HLB.out.2]
         simp [outs,backP,List.map_drop]
        have hlt:=hok2.light HF.out
        rw [hsl] at hlt
        have hm:=HR.out.m
        have hd:=HR.out.dn
        have h16:=HR.out.d16
        have hnn:=HNN.out
        have h3:=HR.out.at3.snoc hl
        obtain ⟨e1,e2,e3⟩:=stp_rule hi HH1.out
        rw [e1,e2,e3,hre.1,hre.2.1,HLB.out.1,HLB.out.2,HDN.out.1,HDN.out.2.1,hre.2.2.2.2,←hln'.2.2.1,←hln'.2.2.2] at h3
        refine ⟨_,_,_,_,_,hsp.gs,HR.out.ok.snoc (by rw [HR.out.lf];exact hok2),by rw [lft_snoc,HR.out.lf];exact hsl,by rw [sumA_snoc,List.length_append];simp;omega,by simp;omega,by omega,h3⟩
       have hxl:xs.length+1≤1000000000:=by have:=HDN.out.2.2;omega
       have HMS:Hid (gk - 1<gk):=by
        have hm:=HR.out.m
        have:=(wS_len HF.out l).1
        show _<_
        omega
       have HLV:Hid ((kn≠lc→IR wX (.slice (some ⟨lg,lo+kn,none⟩) (ln - kn) (lc - kn)) (l.drop kn))∧(kn=lc→IR wX (.slice (some ⟨lg,lo,none⟩) 0 0) (l.drop kn))):=⟨fun _=>ir_drop HX.out.1.lef (by omega),fun h=>ir_zero (List.drop_eq_nil_of_le (by have:=HDN.out.2.1;omega))⟩
       have HLG:Hid (lg<wX.heap.size):=(HX.out.1.lap hl lg rfl).2.2.2
       have HIB:Hid (∀ V,Below wX.heap.size wX V→IR V (.slice (some ⟨g2,o2,none⟩) n2a c2a) Ba):=fun V hb=>HX.out.2.2.below hb (Nat.le_refl _)
       have HOP2:Hid (op<wX.heap.size):=blk_lt HX.out.1.blk
       have HNB:Hid (Ba.length=n2a∧(l.drop kn).length≤32000000):=⟨HNN.out.2,by show _≤_;rw [List.length_drop];have:=HDN.out.2.1;omega⟩
       obtain ⟨x0,x1,x2,x3,x4,x5,x6⟩:=HCL.out wX (Below.refl _ _)
       obtain ⟨l',hl'⟩:∃ l',l.drop kn=l':=⟨_,rfl⟩
       rw [hl'] at HGEN HFIN HLV HNB
       clear HX HR HOK HLY HRR HOk HLen HNN HSBf hl'
       by_cases hkl:kn=lc
       · have HI1:=Hid.mk' (HLV.out.2 hkl)
         have hlnk:ln=kn:=by omega
         subst hkl
         obtain rfl:=hlnk.symm
         by_cases hb0:n2a=0
         · have hBa:Ba=[]:=List.eq_nil_of_length_eq_zero (by have:=HNB.out.1;omega)
           have HGL:=Hid.mk' (HGEN.out wX (.slice (some ⟨lg,lo,none⟩) 0 0) (Below.refl _ _) (by rw [hBa];exact HI1.out) (fun g hg=>own_lg hg HLG.out))
           subst hb0
           go_wp2_with (at_builtin;go_must (refine push_step rfl _ _ rfl rfl (HGL.out _) _ _ ⟨i,dn,kn,kn,n1a,((0:Nat):Int)⟩ rfl (heap_alloc_new _ _) hxl ?_;intro sv2 w5 hs2;have HS2:=Hid.mk' (HFIN.out _ _ _ _ hs2);have cs2:=hs2.c;have fs2:=hs2.f;obtain ⟨t1,t2,t3,ht⟩:=hs2.sl;subst ht;clear hs2))
           try go_wp2
           go_roundg (gk - 1)
           case measure=>exact HMS.out
           case rel=>exact HS2
         · have hb1:(0:Int)<(n2a:Int):=by omega
           have hb2:0<n2a:=by omega
           have hb3:decide (0<n2a)=true:=by simp;omega
           have HN1:Hid (∀ ob,ob=(.cells #[] 3:Obj)→OwnI (wX.alloc ob) wX.heap.size (.slice (some ⟨wX.heap.size,0,none⟩) 0 0) []∧Below wX.heap.size wX (wX.alloc ob)):=fun ob hob=>⟨NewI.own ⟨wX.heap.size,rfl,Nat.le_refl _,by rw [hob];exact Array.getElem?_push_size⟩ (Nat.zero_le _),((Grown.refl wX).alloc _).below⟩
           go_upto_region 19 with (at_builtin;go_must (refine push_more rfl _ _ rfl wX.heap.size _ [] rfl (HN1.out _ rfl).1 Ba _ rfl (HIB.out _ (HN1.out _ rfl).2) (by have:=HNB.out.1;simp;omega) (by simp) ?_;intro v4 w12 ho4 hb4;have HV4:Hid (OwnI w12 wX.heap.size v4 Ba∧Below wX.heap.size wX w12):=⟨ho4,(HN1.out _ rfl).2.trans hb4⟩;obtain ⟨k1,k2,k3,hk4⟩:=ho4.ir.sl;subst hk4;clear ho4 hb4))
           have hlen4:Ba.length+l'.length≤1000000000:=by have:=HNB.out;omega
           go_upto_region 20 with (at_builtin;go_must (refine push_more rfl _ _ rfl wX.heap.size _ Ba rfl HV4.out.1 l' _ rfl (HI1.out.below HV4.out.2 (Nat.le_refl _)) hlen4 (by have:=HV4.out.2.size;omega) ?_;intro v5 w13 ho5 hb5;have HV5:Hid (OwnI w13 wX.heap.size v5 (Ba++l')∧Below wX.heap.size wX w13):=⟨ho5,HV4.out.2.trans hb5⟩;obtain ⟨k5,k6,k7,hk8⟩:=ho5.ir.sl;subst hk8;clear ho5 hb5))
           have HGL:=Hid.mk' (HGEN.out w13 _ HV5.out.2 HV5.out.1.ir (fun g hg=>by
            rcases row_blk HV5.out.1 with h1 | ⟨g',cur,h1,h2,h3⟩
            · rw [h1] at hg;cases hg
            · rw [h1] at hg;injection hg with hg;subst hg;exact ⟨.inr h2,blk_lt h3⟩))
           clear x0 x1 x2 x3 x4 x5 x6
           obtain ⟨x0,x1,x2,x3,x4,x5,x6⟩:=HCL.out w13 HV5.out.2
           go_wp2_with (at_builtin;go_must (refine push_step rfl _ _ rfl rfl (HGL.out _) _ _ ⟨i,dn,kn,kn,n1a,n2a⟩ rfl (heap_alloc_new _ _) hxl ?_;intro sv2 w5 hs2;have HS2:=Hid.mk' (HFIN.out _ _ _ _ hs2);have cs2:=hs2.c;have fs2:=hs2.f;obtain ⟨t1,t2,t3,ht⟩:=hs2.sl;subst ht;clear hs2))
           try go_wp2
           go_roundg (gk - 1)
           case measure=>exact HMS.out
           case rel=>exact HS2
       · have HI1:=Hid.mk' (HLV.out.1 hkl)
         have hkl2:((kn:Int) == (lc:Int))=false:=by simp;omega
         by_cases hb0:n2a=0
         · have hBa:Ba=[]:=List.eq_nil_of_length_eq_zero (by have:=HNB.out.1;omega)
           have HGL:=Hid.mk' (HGEN.out wX (.slice (some ⟨lg,lo+kn,none⟩) (ln - kn) (lc - kn)) (Below.refl _ _) (by rw [hBa];exact HI1.out) (fun g hg=>own_lg hg HLG.out))
           subst hb0
           go_wp2_with (at_builtin;go_must (refine push_step rfl _ _ rfl rfl (HGL.out _) _ _ ⟨i,dn,ln,kn,n1a,((0:Nat):Int)⟩ rfl (heap_alloc_new _ _) hxl ?_;intro sv2 w5 hs2;have HS2:=Hid.mk' (HFIN.out _ _ _ _ hs2);have cs2:=hs2.c;have fs2:=hs2.f;obtain ⟨t1,t2,t3,ht⟩:=hs2.sl;subst ht;clear hs2))
           try go_wp2
           go_roundg (gk - 1)
           case measure=>exact HMS.out
           case rel=>exact HS2
         · have hb1:(0:Int)<(n2a:Int):=by omega
           have hb2:0<n2a:=by omega
           have hb3:decide (0<n2a)=true:=by simp;omega
           have HN1:Hid (∀ ob,ob=(.cells #[] 3:Obj)→OwnI (wX.alloc ob) wX.heap.size (.slice (some ⟨wX.heap.size,0,none⟩) 0 0) []∧Below wX.heap.size wX (wX.alloc ob)):=fun ob hob=>⟨NewI.own ⟨wX.heap.size,rfl,Nat.le_refl _,by rw [hob];exact Array.getElem?_push_size⟩ (Nat.zero_le _),((Grown.refl wX).alloc _).below⟩
           go_upto_region 19 with (at_builtin;go_must (refine push_more rfl _ _ rfl wX.heap.size _ [] rfl (HN1.out _ rfl).1 Ba _ rfl (HIB.out _ (HN1.out _ rfl).2) (by have:=HNB.out.1;simp;omega) (by simp) ?_;intro v4 w12 ho4 hb4;have HV4:Hid (OwnI w12 wX.heap.size v4 Ba∧Below wX.heap.size wX w12):=⟨ho4,(HN1.out _ rfl).2.trans hb4⟩;obtain ⟨k1,k2,k3,hk4⟩:=ho4.ir.sl;subst hk4;clear ho4 hb4))
           have hlen4:Ba.length+l'.length≤1000000000:=by have:=HNB.out;omega
           go_upto_region 20 with (at_builtin;go_must (refine push_more rfl _ _ rfl wX.heap.size _ Ba rfl HV4.out.1 l' _ rfl (HI1.out.below HV4.out.2 (Nat.le_refl _)) hlen4 (by have:=HV4.out.2.size;omega) ?_;intro v5 w13 ho5 hb5;have HV5:Hid (OwnI w13 wX.heap.size v5 (Ba++l')∧Below wX.heap.size wX w13):=⟨ho5,HV4.out.2.trans hb5⟩;obtain ⟨k5,k6,k7,hk8⟩:=ho5.ir.sl;subst hk8;clear ho5 hb5))
           have HGL:=Hid.mk' (HGEN.out w13 _ HV5.out.2 HV5.out.1.ir (fun g hg=>by
            rcases row_blk HV5.out.1 with h1 | ⟨g',cur,h1,h2,h3⟩
            · rw [h1] at hg;cases hg
            · rw [h1] at hg;injection hg with hg;subst hg;exact ⟨.inr h2,blk_lt h3⟩))
           clear x0 x1 x2 x3 x4 x5 x6
           obtain ⟨x0,x1,x2,x3,x4,x5,x6⟩:=HCL.out w13 HV5.out.2
           go_wp2_with (at_builtin;go_must (refine push_step rfl _ _ rfl rfl (HGL.out _) _ _ ⟨i,dn,ln,kn,n1a,n2a⟩ rfl (heap_alloc_new _ _) hxl ?_;intro sv2 w5 hs2;have HS2:=Hid.mk' (HFIN.out _ _ _ _ hs2);have cs2:=hs2.c;have fs2:=hs2.f;obtain ⟨t1,t2,t3,ht⟩:=hs2.sl;subst ht;clear hs2))
           try go_wp2
           go_roundg (gk - 1)
           case measure=>exact HMS.out
           case rel=>exact HS2
set_option maxHeartbeats 4000000 in
theorem rmay_any (v:Value) (rs:List Rl) (s:ByteArray) (w:World) (h:PsR w v rs):Calls Tryz.prog 57 #[.agg #[v],.string s] w fun e w'=>e = .returned (.int .i64 (mayE rs s))∧Below w.heap.size w w':=by
 have HC:Hid (∀ W,Grown w W→Calls Tryz.prog 22 #[.agg #[v]] W fun e w'=>e = .returned (.tuple #[.int .i64 (chkW rs).1,.int .i64 (chkW rs).2])∧Below w.heap.size w w'):=fun W g=>(rchkA v rs W (h.grown g)).mono fun e w' h=>⟨h.1,g.below.trans (h.2.mono g.size)⟩
 obtain ⟨v1,v2,v3,hv⟩:IsSl v:=by obtain ⟨a,b,e,_⟩:=h;exact ⟨_,_,_,e⟩
 subst hv
 unfold mayE
 generalize chkW rs=c at HC ⊢
 obtain ⟨c1,c2⟩:=c
 have HC2:Hid (∀ W,Grown w W→Calls Tryz.prog 22 #[.agg #[.slice v1 v2 v3]] W fun e w'=>e = .returned (.tuple #[.int .i64 c1,.int .i64 c2])∧Below w.heap.size w w'):=HC.out
 clear HC h
 by_cases h1:c2=0
 · subst h1
   by_cases h2:16384<s.size
   · have h3:(16384:Int)<(s.size:Int):=by omega
     go_enter Tryz.func57,Tryz.ntmps57
     go_wp2_with (go_at_call 22;refine (HC2.out _ (by (repeat (first | exact Grown.refl _ | refine Grown.alloc ?_ _ | refine Grown.drew ?_)))).mono ?_;rintro e w2 ⟨rfl,hb⟩)
     go_ret
     exact ⟨by simp,hb⟩
   · have h3:¬ (16384:Int)<(s.size:Int):=by omega
     go_enter Tryz.func57,Tryz.ntmps57
     go_wp2_with (go_at_call 22;refine (HC2.out _ (by (repeat (first | exact Grown.refl _ | refine Grown.alloc ?_ _ | refine Grown.drew ?_)))).mono ?_;rintro e w2 ⟨rfl,hb⟩)
     go_ret
     exact ⟨by simp,hb⟩
 · have h4:(c2 == 0)=false:=by simpa using h1
   go_enter Tryz.func57,Tryz.ntmps57
   go_wp2_with (go_at_call 22;refine (HC2.out _ (by (repeat (first | exact Grown.refl _ | refine Grown.alloc ?_ _ | refine Grown.drew ?_)))).mono ?_;rintro e w2 ⟨rfl,hb⟩)
   go_ret
   exact ⟨by simp,hb⟩
end Go.Proofs
