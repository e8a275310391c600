/-
  Several texts in one (Ej Eg El Em En Eo).
-/
import Derived.RangeFuncNested
import Derived.RangeFuncBound
import Derived.RangeFuncCalls
import Derived.RangeFuncLeaves
import Derived.Shelf.Abstract
import Derived.Shelf.RegionOpen
import Derived.WalkKit
import Derived.WalkSpells
import Derived.WalkLawsBesides
import Derived.OwnWalkIn
import Derived.TacticsInMore
import Derived.LoopNIn
import Derived.LoopIn
import Derived.BigQuiet
import Derived.RegionIn
import Derived.Deep.QuietTactic
import Derived.Deep.RegionWith
import Derived.Lib.OthersKept
import Derived.Maps.AppendAt
import Derived.Lib.SmallJoins
import Derived.Shelf.SlSortCmp.QuietGrown
import Derived.Deep.AppendLies
import Derived.Laws.OwnMore
import Derived.Carry
import Derived.Deep.RegionLaw
import Derived.Test.YtcfcjljapamcoaaGreatDoorMgbx
import Derived.Deep.LoopGhost
import Derived.Scope
namespace Go.Proofs
open Go.RowKit Go.Shelf
set_option maxRecDepth 100000
attribute [local go_sem] Oper.semAt_some
attribute [local go_sem ↓] Go.wp_at_zero Go.wp_at_succ
theorem make_zero (n:Nat) (hn:n≤1000000) (W:World):(Instr.makeSlice 49 (.int .i64 n) (.int .i64 n)).run Tryz.prog W = .ok (.slice (some ⟨W.heap.size,0,none⟩) n n) (W.alloc (.cells (ints (List.replicate n 0)).toArray 3)):=by
 obtain ⟨i0,hi,hz0,hz1,hz2⟩:=info_parts iinfo3
 have h:=run_make (P:=Tryz.prog) W 49 3 i0 (.int .i64 0) Tryz.underlying49 hi hz0 .i64 .i64 (n:Int) (n:Int) (by omega) (Int.le_refl _) (by rw [hz2];omega) (by omega)
 rw [h,show (n:Int).toNat=n by omega,hz1,Nat.mul_one]
 congr 3
 rw [←Array.toList_inj]
 show (madeCells #[.int .i64 0] n).toList=_
 rw [toList_madeCells_one]
 simp [ints]
def stK (rs:List Rl) (k:Nat):St:=⟨List.replicate k 1,(rs.take k).map askI++List.replicate (rs.length - k) 0,bkI rs k⟩
def aqJ (rs:List Rl) (k:Nat) (x:Int):List Int:=(rs.take k).map askI++x::List.replicate (rs.length - (k+1)) 0
def stJ (rs:List Rl) (k j:Nat) (r:Rl):St:=⟨List.replicate (k+1) 1,aqJ rs k (2 - (r.key.length:Int)+(j:Nat)),bkI rs k++pbs k ((backP r).take j)⟩
theorem take_len {rs:List Rl} {k:Nat} (h:k<rs.length):((rs.take k).map askI).length=k:=by simp;omega
theorem aqJ_len {rs:List Rl} {k:Nat} (h:k<rs.length) (x:Int):(aqJ rs k x).length=rs.length:=by
 unfold aqJ
 rw [List.length_append,take_len h]
 simp
 omega
theorem aqJ_set {rs:List Rl} {k:Nat} (h:k<rs.length) (x y:Int):(aqJ rs k x).set k y=aqJ rs k y:=by
 unfold aqJ
 rw [List.set_append_right k y (by rw [take_len h];exact Nat.le_refl _),take_len h]
 simp
theorem aqJ_at {rs:List Rl} {k:Nat} (h:k<rs.length) (x:Int):(aqJ rs k x)[k]? = some x:=by
 unfold aqJ
 rw [List.getElem?_append_right (by rw [take_len h];exact Nat.le_refl _),take_len h]
 simp
theorem stK_set {rs:List Rl} {k:Nat} (h:k<rs.length) (x:Int):(stK rs k).aq.set k x=aqJ rs k x:=by
 unfold stK aqJ
 simp only
 rw [show rs.length - k=(rs.length - (k+1))+1 by omega,List.replicate_succ,List.set_append_right k x (by rw [take_len h];exact Nat.le_refl _),take_len h]
 simp
theorem stK_len {rs:List Rl} {k:Nat} (h:k≤rs.length):(stK rs k).aq.length=rs.length:=by
 unfold stK
 simp
 omega
theorem stJ_end {rs:List Rl} {k:Nat} (h:k<rs.length):stJ rs k (backP rs[k]).length rs[k]=stK rs (k+1):=by
 unfold stJ stK aqJ
 have h1:(rs.take (k+1)).map askI=(rs.take k).map askI++[askI rs[k]]:=by
  rw [List.take_add_one,List.map_append,List.getElem?_eq_getElem h]
  rfl
 rw [h1,List.take_of_length_le (Nat.le_refl _)]
 congr 1
 · simp [askI]
 · rw [bkI,List.getElem?_eq_getElem h]
   rfl
theorem stJ_start {rs:List Rl} {k:Nat} (r:Rl):stJ rs k 0 r=⟨List.replicate k 1++[1],aqJ rs k (2 - (r.key.length:Int)),(stK rs k).bk⟩:=by
 unfold stJ stK
 simp [pbs,List.replicate_succ']
theorem stJ_bk {rs:List Rl} {k j:Nat} {r:Rl} (hj:j<(backP r).length):(stJ rs k (j+1) r).bk=(stJ rs k j r).bk++(if (backP r)[j].k=2 then [] else [⟨k,mayB (backP r)[j],1⟩]):=by
 unfold stJ
 simp only
 rw [List.take_add_one,List.getElem?_eq_getElem hj,List.append_assoc]
 congr 1
 exact pbs_snoc _ _ _
theorem info121:(Tryz.prog.info? 196).map (fun i=>(i.zero,i.size,i.bytes))=some (some (.agg #[.int .i64 0,.slice none 0 0,.int .i64 0]),3,40):=by kernel_rfl
theorem Sc.sp_grown {W W1 w0:World} {sp m1 ga m2 N1 N2:Nat} {bv:Value} {uvs:List Value} {rv:Value} {rs:List Rl} {st:St} {ln:Int→Option Value} (h:Sc W w0 sp m1 ga m2 N1 N2 bv uvs rv rs st ln) (ho:BKo W w0.heap.size bv st.bk uvs) (hgr:W.grownBy W1 bv.ownBlock):W1.heap[sp]? = some (.cells #[rv,.map (some m1),.slice (some ⟨ga,0,none⟩) st.aq.length st.aq.length,bv,.map (some m2)] 193 (0,0)):=by
 refine (hgr.block sp (Array.getElem?_eq_some_iff.1 h.blk).1 (fun e => ?_)).trans h.blk
 obtain ⟨_,cs,hc⟩:=ho.row e.symm
 rw [h.blk] at hc
 simp at hc
def NsQ (w:World) (rv:Value) (rs:List Rl) (e:Ending) (w':World):Prop:=∃ sp m1 ga m2 bv uvs,e = .returned (.pointer (some ⟨sp,0,none⟩))∧Sc w' w sp m1 ga m2 rs.length 0 bv uvs rv rs (stK rs rs.length) (fun _=>none)
set_option maxHeartbeats 16000000 in
theorem newScale_any (rv:Value) (rs:List Rl) (w:World) (h:PsR w rv rs) (hO:∀ r∈rs,Ok r) (hn:rs.length≤256) :
 Calls Tryz.prog 132 #[rv] w (NsQ w rv rs):=by
 have HP:Hid (PsR w rv rs):=h
 have HO:Hid (∀ r∈rs,Ok r):=hO
 obtain ⟨ra,rc,rfl,_,_⟩:=h
 obtain ⟨n,hnn⟩:∃ n,rs.length=n:=⟨_,rfl⟩
 have HN:Hid (rs.length=n):=hnn
 rw [hnn] at hn HP ⊢
 have hnI:(n:Int)≤256:=by omega
 have hmk:=make_zero n (by omega)
 have hmm := @run_makeMap Tryz.prog
 clear hnn hO
 go_enter Tryz.func132,Tryz.ntmps132
 obtain ⟨W1,hW1⟩:∃ W1,W1=((((w.alloc (.map #[] 0)).alloc (.cells (ints (List.replicate n 0)).toArray 3)).alloc (.map #[] 0)).alloc (.cells #[.slice ra n rc,.map (some w.heap.size),.slice (some ⟨w.heap.size+1,0,none⟩) n n,.slice none 0 0,.map (some (w.heap.size+1+1))] 193)):=⟨_,rfl⟩
 have H0:Hid (∃ bv uvs,Sc W1 w (w.heap.size+1+1+1) w.heap.size (w.heap.size+1) (w.heap.size+1+1) 0 0 bv uvs (.slice ra n rc) rs (stK rs 0) (fun _=>none)∧BKo W1 w.heap.size bv (stK rs 0).bk uvs):=by
  have g1:Grown (w.alloc (.map #[] 0)) W1:=by rw [hW1];exact (((Grown.refl _).alloc _).alloc _).alloc _
  have b1:W1.heap[w.heap.size+1]? = some (.cells (ints (List.replicate n 0)).toArray 3 (0,0)):=by
   have g:Grown ((w.alloc (.map #[] 0)).alloc (.cells (ints (List.replicate n 0)).toArray 3)) W1:=by rw [hW1];exact ((Grown.refl _).alloc _).alloc _
   have e:=heap_alloc_new (w.alloc (.map #[] 0)) (.cells (ints (List.replicate n 0)).toArray 3)
   have e2:=g.below.block (w.heap.size+1) (by simp)
   rw [e2]
   simpa using e
  have b3:W1.heap[w.heap.size+1+1+1]? = some (.cells #[.slice ra n rc,.map (some w.heap.size),.slice (some ⟨w.heap.size+1,0,none⟩) n n,.slice none 0 0,.map (some (w.heap.size+1+1))] 193 (0,0)):=by
   rw [hW1]
   have e:=heap_alloc_new (((w.alloc (.map #[] 0)).alloc (.cells (ints (List.replicate n 0)).toArray 3)).alloc (.map #[] 0)) (.cells #[.slice ra n rc,.map (some w.heap.size),.slice (some ⟨w.heap.size+1,0,none⟩) n n,.slice none 0 0,.map (some (w.heap.size+1+1))] 193)
   simpa using e
  have i1:IMap W1 w.heap.size 0 (fun _=>none):=(IMap.made w).kept (fun o ho=>(g1.below.block _ (Array.getElem?_eq_some_iff.1 ho).1).trans ho)
  have i2:IMap W1 (w.heap.size+1+1) 0 (fun _=>none):=by
   have g:Grown (((w.alloc (.map #[] 0)).alloc (.cells (ints (List.replicate n 0)).toArray 3)).alloc (.map #[] 0)) W1:=by rw [hW1];exact (Grown.refl _).alloc _
   have:=(IMap.made ((w.alloc (.map #[] 0)).alloc (.cells (ints (List.replicate n 0)).toArray 3))).kept (W':=W1) (fun o ho=>(g.below.block _ (Array.getElem?_eq_some_iff.1 ho).1).trans ho)
   simpa using this
  have hB:BKo W1 w.heap.size (.slice none 0 0) (stK rs 0).bk []:=⟨rfl,World.ownsRow_nil _ _ _ _⟩
  have hl:=HN.out
  refine ⟨.slice none 0 0,[],⟨?_,?_,HP.out,by omega,by omega,by omega,by omega,by omega,?_,?_,hB.bk,fun j hj=>by simp [stK,bkI] at hj,i2,fun k v e=>by cases e⟩,hB⟩
  · rw [b3,stK_len (Nat.zero_le _),hl]
  · rw [hW1];exact (((((Grown.refl _).alloc _).alloc _).alloc _).alloc _).below
  · have:wsF (stK rs 0).ws=fun _=>none:=by funext k;simp [wsF,stK]
    rw [this];exact i1
  · rw [b1];simp [stK,hl]
 go_wp2
 rw [show (((w.alloc (.map #[] 0)).alloc (.cells (ints (List.replicate n 0)).toArray 3)).alloc (.map #[] 0)).alloc (.cells #[.slice ra n rc,.map (some w.heap.size),.slice (some ⟨w.heap.size+1,0,none⟩) n n,.slice none 0 0,.map (some (w.heap.size+1+1))] 193)=W1 from hW1.symm]
 clear hW1 hmk hmm
 generalize w.heap.size+1+1+1=sp at H0 ⊢
 generalize w.heap.size+1+1=m2 at H0 ⊢
 generalize w.heap.size+1=ga at H0 ⊢
 go_loopw [18] (fun vi wr=>∃ k:Nat,vi = .int .i64 k∧k≤n∧Hid (∃ bv uvs,Sc wr w sp w.heap.size ga m2 k 0 bv uvs (.slice ra n rc) rs (stK rs k) (fun _=>none)∧BKo wr w.heap.size bv (stK rs k).bk uvs)) (fun vi _=>n - (intOf vi).toNat)
 case atStart=>exact ⟨0,rfl,by omega,H0⟩
 case round=>
  obtain ⟨k,rfl,hk,HSk⟩:=hrel
  clear H0
  have hk0:(0:Int)≤(k:Int):=by omega
  by_cases hlt:k<n
  · have hlt':(k:Int)<(n:Int):=by omega
    have hkI:(k:Int)≤256:=by omega
    have hkl:k<rs.length:=by rw [HN.out];exact hlt
    obtain ⟨bv,uvs,hS,hB⟩:=HSk.out
    clear HSk
    obtain ⟨a',c',e',_,hPr⟩:=HP.out
    obtain ⟨g,o,ha',hRA⟩:=hPr.resolve_left (fun e=>by rw [e] at hkl;simp at hkl)
    injection e' with e1 e2 e3
    clear e2 e3
    rw [ha'] at e1
    subst e1
    have hRn:=hRA k hkl
    have hOk:=HO.out _ (List.getElem_mem hkl)
    obtain ⟨r,hr⟩:∃ r,rs[k]=r:=⟨_,rfl⟩
    rw [hr] at hRn hOk
    have hRw:=hRn.below hS.bel (Nat.le_refl _)
    obtain ⟨av,kv,pv,rv',r0,r1,r2,r3,r4,r5,r6,hRR⟩:=hRw
    obtain ⟨av2,kv2,pv2,rv2,s0,s1,s2,s3,s4,s5,s6,hRR0⟩:=hRn
    have t1:=cell_below s1 hS.bel (Nat.le_refl _)
    have t2:=cell_below s2 hS.bel (Nat.le_refl _)
    have t3:=cell_below s3 hS.bel (Nat.le_refl _)
    have t5:=cell_below s5 hS.bel (Nat.le_refl _)
    rw [t1] at r1;cases r1
    rw [t2] at r2;cases r2
    rw [t3] at r3;cases r3
    rw [t5] at r5;cases r5
    have HPB:Hid (∀ wx,Calls Tryz.prog 163 #[.agg #[.bool r.bg,av,kv,pv,.bool r.en,rv',.int .i64 r.cu]] wx fun e w'=>∃ v,e = .returned v∧PR w v (backP r)∧Grown wx w'):=fun wx=>putBack_any r av kv pv rv' wx w hRR0 hOk.c0 hOk.c1
    have hkl8:(r.key.length:Int)≤8:=by have:=hOk.k8;omega
    have HKL:Hid (1≤r.key.length∧r.key.length≤8∧(backP r).length≤16):=⟨hOk.k0,hOk.k8,by have:=hOk.r16;simp [backP];omega⟩
    obtain ⟨a1,n1,c1,rfl⟩:=hRR0.a.sl
    obtain ⟨ka,kc,hkv,_,_⟩:=hRR0.k
    subst hkv
    obtain ⟨a3,n3,c3,rfl⟩:=hRR0.p.sl
    obtain ⟨a5,n5,c5,rfl⟩:=hRR0.r.sl
    obtain ⟨kl,hkl'⟩:∃ kl,r.key.length=kl:=⟨_,rfl⟩
    rw [hkl'] at t2 HPB hkl8 HKL
    have hkl0:(0:Int)≤(kl:Int):=by omega
    obtain ⟨xb,hxb⟩:∃ xb,r.bg=xb:=⟨_,rfl⟩
    obtain ⟨xe,hxe⟩:∃ xe,r.en=xe:=⟨_,rfl⟩
    obtain ⟨xc,hxc⟩:∃ xc,r.cu=xc:=⟨_,rfl⟩
    rw [hxb] at r0 HPB
    rw [hxe] at r4 HPB
    rw [hxc] at r6 HPB
    obtain ⟨W5,hW5⟩:∃ W5,W5=wr.alloc (.cells #[.bool xb,.slice a1 n1 c1,.slice ka kl kc,.slice a3 n3 c3,.bool xe,.slice a5 n5 c5,.int .i64 xc] 60):=⟨_,rfl⟩
    have hG5:Grown wr W5:=by rw [hW5];exact (Grown.refl _).alloc _
    have b5:W5.heap[wr.heap.size]? = some (.cells #[.bool xb,.slice a1 n1 c1,.slice ka kl kc,.slice a3 n3 c3,.bool xe,.slice a5 n5 c5,.int .i64 xc] 60 (0,0)):=by rw [hW5];exact heap_alloc_new _ _
    have hS5:=hS.grown hG5
    have hB5:=hB.below hG5.below
    obtain ⟨W6,hrun,hI,ht⟩:=hS5.wm.store (by omega) Tryz.underlying117 (k:=(k:Int)) ⟨by omega,by omega⟩ (.int .i64 1)
    obtain ⟨es6,c6,ho6⟩:=hS5.wm.isMap
    have hwl:(stK rs k).ws.length=k:=by simp [stK]
    have hI2:IMap W6 w.heap.size (k+1) (wsF ((stK rs k).ws++[1])):=by rw [←wsF_snoc,hwl];exact hI
    have hS6:=hS5.turn1 ht hI2
    have hB6:BKo W6 w.heap.size bv (stK rs k).bk uvs:=hB5.turn ho6 (by simp) (fun b hb=>turned_other ht hb)
    have b6:W6.heap[wr.heap.size]? = some (.cells #[.bool xb,.slice a1 n1 c1,.slice ka kl kc,.slice a3 n3 c3,.bool xe,.slice a5 n5 c5,.int .i64 xc] 60 (0,0)):=(turned_other ht (ne_obj b5 ho6 (by simp))).trans b5
    have q1:∀ o,(wr.alloc o).cell? ⟨sp,1,none⟩=some (.map (some w.heap.size)):=fun o=>cell_up (by rw [cell_of hS.blk];simp) o
    have hal:(stK rs k).aq.length=n:=by rw [stK_len (by omega)];exact HN.out
    have q2:W6.cell? ⟨sp,2,none⟩=some (.slice (some ⟨ga,0,none⟩) n n):=by rw [cell_of hS6.blk];simp [hal]
    have hga6:=hS6.asb
    have hkq:k<(stK rs k).aq.length:=by omega
    have qa:∃ u,W6.cell? ⟨ga,k,none⟩=some u:=by rw [cell_of hga6];exact ⟨.int .i64 (at0 (stK rs k).aq k),by simp [ints,at0,hkq]⟩
    obtain ⟨u6,qa⟩:=qa
    have qf:W6.frozen? ⟨ga,k,none⟩=false:=free_of hga6
    have q5:W6.cell? ⟨wr.heap.size,2,none⟩=some (.slice ka kl kc):=by rw [cell_of b6];simp
    -- behind the store
    have hS7:=hS6.turn2 k (2 - (kl:Int))
    rw [show (St.mk ((stK rs k).ws++[1]) (stK rs k).aq (stK rs k).bk).aq=(stK rs k).aq from rfl,stK_set hkl] at hS7
    have hB7:=hB6.turn hga6 (by simp) (turns_set W6 ga k (.int .i64 (2 - (kl:Int))))
    have b7:(W6.setCell ⟨ga,k,none⟩ (.int .i64 (2 - (kl:Int)))).heap[wr.heap.size]? = some (.cells #[.bool xb,.slice a1 n1 c1,.slice ka kl kc,.slice a3 n3 c3,.bool xe,.slice a5 n5 c5,.int .i64 xc] 60 (0,0)):=(turns_set _ _ _ _ _ (ne_obj b6 hga6 (by simp))).trans b6
    have HJ0:Hid (∃ bv uvs,Sc (W6.setCell ⟨ga,k,none⟩ (.int .i64 (2 - (kl:Int)))) w sp w.heap.size ga m2 (k+1) 0 bv uvs (.slice (some ⟨g,o,none⟩) n rc) rs (stJ rs k 0 r) (fun _=>none)∧BKo (W6.setCell ⟨ga,k,none⟩ (.int .i64 (2 - (kl:Int)))) w.heap.size bv (stJ rs k 0 r).bk uvs):=by
     rw [stJ_start,hkl']
     exact ⟨bv,uvs,hS7,hB7⟩
    have HR:Hid (rs[k]=r∧r.key.length=kl∧k<rs.length):=⟨hr,hkl',hkl⟩
    rw [hW5] at hrun
    clear hS hB hPr ha' hRA hOk hr hRR hRR0 hS5 hB5 hI hI2 hS6 hB6 ht ho6 hwl hal hga6 hkq hS7 hB7 hxb hxe hxc hkl' s0 s1 s2 s3 s4 s5 s6
    obtain ⟨W7,hW7⟩:∃ W7,W7=W6.setCell ⟨ga,k,none⟩ (.int .i64 (2 - (kl:Int))):=⟨_,rfl⟩
    rw [←hW7] at HJ0 b7
    have hnum:(1:Int) - ((kl:Int) - 1)=2 - (kl:Int):=by omega
    have p0:W7.cell? ⟨wr.heap.size,0,none⟩=some (.bool xb):=by rw [cell_of b7];simp
    have p1:W7.cell? ⟨wr.heap.size,1,none⟩=some (.slice a1 n1 c1):=by rw [cell_of b7];simp
    have p2:W7.cell? ⟨wr.heap.size,2,none⟩=some (.slice ka kl kc):=by rw [cell_of b7];simp
    have p3:W7.cell? ⟨wr.heap.size,3,none⟩=some (.slice a3 n3 c3):=by rw [cell_of b7];simp
    have p4:W7.cell? ⟨wr.heap.size,4,none⟩=some (.bool xe):=by rw [cell_of b7];simp
    have p5:W7.cell? ⟨wr.heap.size,5,none⟩=some (.slice a5 n5 c5):=by rw [cell_of b7];simp
    have p6:W7.cell? ⟨wr.heap.size,6,none⟩=some (.int .i64 xc):=by rw [cell_of b7];simp
    clear b5 b6 b7 hW5 hG5
    go_wp2
    go_region
    rw [←hW7]
    clear hW7 q1 q2 qa qf q5 hrun hnum
    go_wp2_with fail
    refine (HPB.out _).mono ?_
    rintro e w8 ⟨v,rfl,hPR,hG8⟩
    have HPR:Hid (PR w v (backP r)):=hPR
    have HJ1:Hid (∃ bv uvs,Sc w8 w sp w.heap.size ga m2 (k+1) 0 bv uvs (.slice (some ⟨g,o,none⟩) n rc) rs (stJ rs k 0 r) (fun _=>none)∧BKo w8 w.heap.size bv (stJ rs k 0 r).bk uvs):=by
     obtain ⟨bv,uvs,h1,h2⟩:=HJ0.out
     have hg:Grown W7 w8:=(Grown.refl W7).drew.trans hG8
     exact ⟨bv,uvs,h1.grown hg,h2.below hg.below⟩
    obtain ⟨pa,pc,rfl,_,_⟩:=hPR
    obtain ⟨nb,hnb⟩:∃ nb,(backP r).length=nb:=⟨_,rfl⟩
    have HNB:Hid ((backP r).length=nb):=hnb
    rw [hnb] at HPR HKL ⊢
    have hnbI:(nb:Int)≤16:=by have:=HKL.out;omega
    clear hnb HJ0 hG8 HPB p0 p1 p2 p3 p4 p5 p6 r0 r4 r6 t1 t2 t3 t5 HP
    go_wp2
    go_loopw [42] (fun vj wx=>∃ j:Nat,vj = .int .i64 j∧j≤nb∧Hid (∃ bv uvs,Sc wx w sp w.heap.size ga m2 (k+1) 0 bv uvs (.slice (some ⟨g,o,none⟩) n rc) rs (stJ rs k j r) (fun _=>none)∧BKo wx w.heap.size bv (stJ rs k j r).bk uvs)) (fun vj _=>nb - (intOf vj).toNat)
    case atStart=>exact ⟨0,rfl,by omega,HJ1⟩
    case round=>
     obtain ⟨j,rfl,hj,HSj⟩:=hrel
     clear HJ1
     have hj0:(0:Int)≤(j:Int):=by omega
     by_cases hjl:j<nb
     · have hjl':(j:Int)<(nb:Int):=by omega
       have hjb:j<(backP r).length:=by rw [HNB.out];exact hjl
       obtain ⟨bv2,uvs2,hS,hB⟩:=HSj.out
       clear HSj
       obtain ⟨a',c',e',_,hPr⟩:=HPR.out
       obtain ⟨pg,po,ha',hPd⟩:=hPr.resolve_left (fun e=>by rw [e] at hjb;simp at hjb)
       injection e' with e1 e2 e3
       clear e2 e3
       rw [ha'] at e1
       subst e1
       have hPA:=hPd j hjb
       have hbk1:=stJ_bk (rs:=rs) (k:=k) hjb
       obtain ⟨p,hp⟩:∃ p,(backP r)[j]=p:=⟨_,rfl⟩
       rw [hp] at hPA hbk1
       obtain ⟨tv,x0,x1,x2,x3,hRs⟩:=hPA
       have y0:=cell_below x0 hS.bel (Nat.le_refl _)
       have y1:=cell_below x1 hS.bel (Nat.le_refl _)
       have y2:=cell_below x2 hS.bel (Nat.le_refl _)
       have y3:=cell_below x3 hS.bel (Nat.le_refl _)
       have HUR:Hid (∀ W',Below w.heap.size w W'→UR W' w.heap.size tv p.tl):=fun W' hb=>hRs.ur hb
       obtain ⟨ta,tn,tc,rfl⟩:=hRs.sl
       have HPK:Hid ((backP r)[j]=p):=hp
       have hkrs:=HR.out.2.2
       have hql:(stJ rs k j r).aq.length=n:=by show (aqJ rs k _).length=n;rw [aqJ_len hkrs];exact HN.out
       have z2:∀ o,(wr.alloc o).cell? ⟨sp,2,none⟩=some (.slice (some ⟨ga,0,none⟩) n n):=fun o=>cell_up (by rw [cell_of hS.blk];simp [hql]) o
       have za:∀ o,(wr.alloc o).cell? ⟨ga,k,none⟩=some (.int .i64 (2 - (kl:Int)+(j:Int))):=fun o=>cell_up (by rw [cell_of hS.asb];show (ints (aqJ rs k _)).toArray[k]? = _;simp [ints,aqJ_at hkrs,HR.out.2.1]) o
       have zf:∀ ob,(wr.alloc ob).frozen? ⟨ga,k,none⟩=false:=fun ob=>free_of (B:=ga) (((Grown.refl wr).alloc ob).below.block ga (Array.getElem?_eq_some_iff.1 hS.asb).1 |>.trans hS.asb)
       obtain ⟨pk,hpk⟩:∃ pk,p.k=pk:=⟨_,rfl⟩
       obtain ⟨pu,hpu⟩:∃ pu,p.u=pu:=⟨_,rfl⟩
       obtain ⟨py,hpy⟩:∃ py,p.y=py:=⟨_,rfl⟩
       rw [hpk] at y0
       rw [hpu] at y1
       rw [hpy] at y2
       have HMB:Hid (∀ wx,UR wx w.heap.size (.slice ta tn tc) p.tl→Calls Tryz.prog 164 #[.agg #[.int .i64 pk,.int .i64 pu,.int .i64 py,.slice ta tn tc]] wx fun e w'=>∃ v,e = .returned v∧UR w' w.heap.size v (mayB p)∧Grown wx w'):=fun wx hx=>by
        have:=mayBe_any p (.slice ta tn tc) wx w.heap.size hx
        rw [hpk,hpu,hpy] at this
        exact this
       have HBK1:Hid ((stJ rs k (j+1) r).bk=(stJ rs k j r).bk++(if pk=2 then [] else [⟨k,mayB p,1⟩])):=by show _=_;rw [hbk1,hpk]
       have hjI:(j:Int)≤16:=by omega
       have hklI:(0:Int)≤(kl:Int)∧(kl:Int)≤8:=⟨hkl0,hkl8⟩
       have HS:Hid (Sc wr w sp w.heap.size ga m2 (k+1) 0 bv2 uvs2 (.slice (some ⟨g,o,none⟩) n rc) rs (stJ rs k j r) (fun _=>none)):=hS
       have HB:Hid (BKo wr w.heap.size bv2 (stJ rs k j r).bk uvs2):=hB
       clear hS hB hPr ha' hPd hRs hbk1 hp hpk hpu hpy hql x0 x1 x2 x3
       obtain ⟨V2,hV2⟩:∃ V2,V2=(wr.alloc (.cells #[.int .i64 pk,.int .i64 pu,.int .i64 py,.slice ta tn tc] 64)).setCell ⟨ga,k,none⟩ (.int .i64 (2 - (kl:Int)+(j:Int)+1)):=⟨_,rfl⟩
       have hVS:Sc V2 w sp w.heap.size ga m2 (k+1) 0 bv2 uvs2 (.slice (some ⟨g,o,none⟩) n rc) rs ⟨(stJ rs k j r).ws,(stJ rs k (j+1) r).aq,(stJ rs k j r).bk⟩ (fun _=>none):=by
        have h1:=(HS.out.grown ((Grown.refl _).alloc (.cells #[.int .i64 pk,.int .i64 pu,.int .i64 py,.slice ta tn tc] 64))).turn2 k (2 - (kl:Int)+(j:Int)+1)
        rw [hV2]
        have e1:(stJ rs k j r).aq.set k (2 - (kl:Int)+(j:Int)+1)=(stJ rs k (j+1) r).aq:=by
         show (aqJ rs k _).set k _=aqJ rs k _
         rw [aqJ_set hkrs,HR.out.2.1]
         congr 1
         omega
        rw [e1] at h1
        exact h1
       have hasb1:=(HS.out.grown ((Grown.refl _).alloc (.cells #[.int .i64 pk,.int .i64 pu,.int .i64 py,.slice ta tn tc] 64))).asb
       have hVB:BKo V2 w.heap.size bv2 (stJ rs k j r).bk uvs2:=by
        rw [hV2]
        exact (HB.out.below ((Grown.refl _).alloc _).below).turn hasb1 (by simp) (turns_set _ _ _ _)
       have bp1:(wr.alloc (.cells #[.int .i64 pk,.int .i64 pu,.int .i64 py,.slice ta tn tc] 64)).heap[wr.heap.size]? = some (.cells #[.int .i64 pk,.int .i64 pu,.int .i64 py,.slice ta tn tc] 64 (0,0)):=heap_alloc_new _ _
       have bp:V2.heap[wr.heap.size]? = some (.cells #[.int .i64 pk,.int .i64 pu,.int .i64 py,.slice ta tn tc] 64 (0,0)):=by
        rw [hV2]
        exact (turns_set _ _ _ _ _ (ne_obj bp1 hasb1 (by simp))).trans bp1
       have HVS:Hid (Sc V2 w sp w.heap.size ga m2 (k+1) 0 bv2 uvs2 (.slice (some ⟨g,o,none⟩) n rc) rs ⟨(stJ rs k j r).ws,(stJ rs k (j+1) r).aq,(stJ rs k j r).bk⟩ (fun _=>none)):=hVS
       have HVB:Hid (BKo V2 w.heap.size bv2 (stJ rs k j r).bk uvs2):=hVB
       have c0:V2.cell? ⟨wr.heap.size,0,none⟩=some (.int .i64 pk):=by rw [cell_of bp];simp
       have c0':=c0
       rw [hV2] at c0'
       clear hVS hVB hasb1 bp1 HS HB
       by_cases h2:pk=2
       · as_aux_lemma=>
          subst h2
          have HF:Hid (∃ bv uvs,Sc V2 w sp w.heap.size ga m2 (k+1) 0 bv uvs (.slice (some ⟨g,o,none⟩) n rc) rs (stJ rs k (j+1) r) (fun _=>none)∧BKo V2 w.heap.size bv (stJ rs k (j+1) r).bk uvs):=by
           have e:=HBK1.out
           simp only [if_true,List.append_nil] at e
           refine ⟨bv2,uvs2,?_,by rw [e];exact HVB.out⟩
           have:=HVS.out
           rw [←e] at this
           exact this
          clear HVS HVB bp HBK1 HMB HUR
          rw [hV2] at HF
          clear c0 hV2
          go_wp2
          exact ⟨⟨j+1,by go_num,by omega,HF⟩,by simp [intOf];omega⟩
       · have h2':(pk != 2)=true:=by simpa using h2
         have d3:V2.drew.cell? ⟨sp,3,none⟩=some bv2:=by rw [cell_drew_own,cell_of HVS.out.blk];simp
         have c1:V2.cell? ⟨wr.heap.size,1,none⟩=some (.int .i64 pu):=by rw [cell_of bp];simp
         have c2:V2.cell? ⟨wr.heap.size,2,none⟩=some (.int .i64 py):=by rw [cell_of bp];simp
         have c3:V2.cell? ⟨wr.heap.size,3,none⟩=some (.slice ta tn tc):=by rw [cell_of bp];simp
         obtain ⟨L,hL⟩:∃ L,(stJ rs k j r).bk.length=L:=⟨_,rfl⟩
         have HLB:Hid (L≤5000):=by
          show L≤5000
          have h1:=bkI_len (rs:=rs) (fun r hr=>(HO.out r hr).r16) k
          have h2:=pbs_len k ((backP r).take j)
          rw [←hL]
          show (bkI rs k++pbs k _).length≤_
          simp at h2 ⊢
          omega
         have HUV:Hid (UR V2.drew w.heap.size (.slice ta tn tc) p.tl):=HUR.out _ (HVS.out.bel.drew)
         have HON:Hid (∀ (w9:World) (ob:Obj),Grown V2.drew w9→(w9.alloc ob).ownsRow w.heap.size 196 3 bv2 L (fbk (stJ rs k j r).bk uvs2)∧w.heap.size≤(w9.alloc ob).heap.size):=fun w9 ob h9=>by
          have hg:Grown V2 (w9.alloc ob):=((Grown.refl V2).drew.trans h9).alloc ob
          refine ⟨?_,Nat.le_trans HVS.out.bel.size hg.size⟩
          have:=(HVB.out.below hg.below).2
          rw [hL] at this
          exact this
         have HFIN:Hid (∀ (w9 w10:World) (va:Option Addr) (vn vc g10 cap:Nat),Grown V2.drew w9→UR w9 w.heap.size (.slice va vn vc) (mayB p)→w10.ownsRow w.heap.size 196 3 (.slice (some ⟨g10,0,none⟩) (L+1) cap) (L+1) (fbk (stJ rs k j r).bk uvs2++fb1 ⟨k,mayB p,1⟩ (.slice va vn vc))→(w9.alloc (.cells #[.int .i64 k,.slice va vn vc,.int .i64 1] 196)).grownBy w10 bv2.ownBlock→(w10.cell? ⟨sp,3,none⟩=some bv2∧w10.frozen? ⟨sp,3,none⟩=false)∧∃ bv uvs,Sc (w10.setCell ⟨sp,3,none⟩ (.slice (some ⟨g10,0,none⟩) (L+1) cap)) w sp w.heap.size ga m2 (k+1) 0 bv uvs (.slice (some ⟨g,o,none⟩) n rc) rs (stJ rs k (j+1) r) (fun _=>none)∧BKo (w10.setCell ⟨sp,3,none⟩ (.slice (some ⟨g10,0,none⟩) (L+1) cap)) w.heap.size bv (stJ rs k (j+1) r).bk uvs):=fun w9 w10 va vn vc g10 cap h9 hv hown hgr=>by
          have hg:Grown V2 (w9.alloc (.cells #[.int .i64 k,.slice va vn vc,.int .i64 1] 196)):=((Grown.refl V2).drew.trans h9).alloc _
          have hS9:=HVS.out.grown hg
          have hB9:=HVB.out.below hg.below
          have hsp:=hS9.sp_grown hB9 hgr
          refine ⟨⟨by rw [cell_of hsp];simp,free_of hsp⟩,?_⟩
          have ht5:=hS9.turn5 (b:=⟨k,mayB p,1⟩) (uv := .slice va vn vc) hB9 hL hown hgr (hv.below ((Grown.refl _).alloc _).below)
          have e:=HBK1.out
          rw [if_neg h2] at e
          refine ⟨.slice (some ⟨g10,0,none⟩) (L+1) cap,uvs2++[.slice va vn vc],?_,?_⟩
          · have:=ht5.1
            simp only at this
            rw [←e] at this
            exact this
          · rw [e];exact ht5.2.1
         clear HVS HVB HUR bp hL HBK1
         go_wp2
         rw [←hV2]
         clear hV2 c0'
         obtain ⟨i0,hi,hz0,hz1,hz2⟩:=info_parts info121
         go_region_law (first
          | (go_simp;go_at_call 164;refine (HMB.out _ HUV.out).mono ?_;rintro e w9 ⟨v,rfl,hv,hG9⟩;obtain ⟨va,vn,vc,rfl⟩:=hv.rs.sl;have HV9:Hid (UR w9 w.heap.size (.slice va vn vc) (mayB p)):=hv;have HG9:Hid (Grown V2.drew w9):=hG9;have d39:=hG9.cellv d3;have d39':=fun ob=>cell_up d39 ob;clear hv hG9)
          | (refine step_append_lies _ rfl (.tmp 62) (.tmp 67) 191 rfl w.heap.size 196 i0 (.agg #[.int .i64 0,.slice none 0 0,.int .i64 0]) 3 40 Tryz.underlying191 hi hz0 hz1 hz2 rfl (by decide) bv2 L (fbk (stJ rs k j r).bk uvs2) rfl (HON.out _ _ HG9.out).1 ⟨w9.heap.size,0,none⟩ 1 1 (fb1 ⟨k,mayB p,1⟩ (.slice va vn vc)) rfl rfl (fun j u hj=>by rw [add_zero_at,cell_of (heap_alloc_new _ _)];simpa [fb1] using hj) (fun u hu=>by simp [fb1] at hu;rcases hu with rfl | rfl | rfl <;> rfl) (by omega) (by have:=HLB.out;unfold maxLen;omega) (by have:=HLB.out;omega) (HON.out _ _ HG9.out).2 _ rfl ?_;intro g10 cap w10 hown hgr _ _;obtain ⟨⟨f3,ff⟩,hfin⟩:=HFIN.out w9 w10 va vn vc g10 cap HG9.out HV9.out hown hgr;have HFF:Hid (∃ bv uvs,Sc (w10.setCell ⟨sp,3,none⟩ (.slice (some ⟨g10,0,none⟩) (L+1) cap)) w sp w.heap.size ga m2 (k+1) 0 bv uvs (.slice (some ⟨g,o,none⟩) n rc) rs (stJ rs k (j+1) r) (fun _=>none)∧BKo (w10.setCell ⟨sp,3,none⟩ (.slice (some ⟨g10,0,none⟩) (L+1) cap)) w.heap.size bv (stJ rs k (j+1) r).bk uvs):=hfin;clear hfin hown hgr))
         all_goals (go_wp2;exact ⟨⟨j+1,by go_num,by omega,HFF⟩,by simp [intOf];omega⟩)
     · have hge:¬ (j:Int)<(nb:Int):=by omega
       have HF:Hid (∃ bv uvs,Sc wr w sp w.heap.size ga m2 (k+1) 0 bv uvs (.slice (some ⟨g,o,none⟩) n rc) rs (stK rs (k+1)) (fun _=>none)∧BKo wr w.heap.size bv (stK rs (k+1)).bk uvs):=by
        have:=HSj.out
        have e:stJ rs k j r=stK rs (k+1):=by
         rw [←stJ_end HR.out.2.2,HR.out.1,HNB.out]
         congr 1
         omega
        rw [e] at this
        exact this
       clear HSj
       go_wp2
       exact ⟨⟨k+1,by go_num,by omega,HF⟩,by simp [intOf];omega⟩
  · have hge:¬ (k:Int)<(n:Int):=by omega
    have HF:Hid (NsQ w (.slice ra n rc) rs (.returned (.pointer (some ⟨sp,0,none⟩))) wr):=by
     obtain ⟨bv,uvs,h1,_⟩:=HSk.out
     have e:k=rs.length:=by have:=HN.out;omega
     subst e
     exact ⟨sp,_,ga,m2,bv,uvs,rfl,h1⟩
    clear HSk
    go_wp2
    go_ret
    exact HF.out
theorem look_le (st:St):∀ (k n m:Nat),look st k n=some m→n≤m∧m<n+k
 | 0,n,m,h=>by simp [look] at h
 | k+1,n,m,h=>by
  unfold look at h
  split at h
  · cases h;omega
  · have:=look_le st k (n+1) m h;omega
def SeQ (w0:World) (sp m1 ga m2:Nat) (bv:Value) (uvs:List Value) (rv:Value) (rs:List Rl) (cs:List Int) (us:List (List (Int × Int))) (R1:Bool) (R2:St) (e:Ending) (w':World):Prop:=
 ∃ ln',e = .returned (.bool R1)∧Sc w' w0 sp m1 ga m2 (tws R2.ws) (tws R2.ws) bv uvs rv rs R2 ln'∧OkSt cs us R2
set_option maxHeartbeats 8000000 in
theorem settle_any {W w0:World} {sp m1 ga m2:Nat} {bv:Value} {uvs:List Value} {rv:Value} {rs:List Rl} {st:St} {ln:Int→Option Value} {cs:List Int} {us:List (List (Int × Int))} (last F:Nat) (hS:Sc W w0 sp m1 ga m2 (tws st.ws) (tws st.ws) bv uvs rv rs st ln) (hO:OkSt cs us st) (hcl:cs.length=rs.length) (hn:last<rs.length) (hK:Kok rs) (hu:∀ u∈us,u.length≤512) (hF:64*cs.length<F+tws st.ws) :
 Calls Tryz.prog 133 #[.pointer (some ⟨sp,0,none⟩),.int .i64 last] W (SeQ w0 sp m1 ga m2 bv uvs rv rs cs us (settleP rs last F st).1 (settleP rs last F st).2):=by
 obtain ⟨R,hR⟩:∃ R,settleP rs last F st=R:=⟨_,rfl⟩
 rw [hR]
 obtain ⟨R1,R2⟩:=R
 simp only
 have HK:Hid (Kok rs):=hK
 have HU:Hid (∀ u∈us,u.length≤512):=hu
 have HCL:Hid (cs.length=rs.length∧last<rs.length∧rs.length≤256):=⟨hcl,hn,hK.n⟩
 have hlI:(last:Int)≤256:=by have:=hK.n;omega
 have hl0:(0:Int)≤(last:Int):=by omega
 have H0:Hid (∃ st ln,Sc W w0 sp m1 ga m2 (tws st.ws) (tws st.ws) bv uvs rv rs st ln∧OkSt cs us st∧settleP rs last F st=(R1,R2)∧64*cs.length<F+tws st.ws):=⟨st,ln,hS,hO,hR,hF⟩
 clear hS hO hR hF hu hK hcl hn
 go_enter Tryz.func133,Tryz.ntmps133
 go_wp2
 refine wp_scope_straight ?_
 go_wp2
 refine wp_label ?_
 go_wp2
 go_loopg [] F (fun f wr=>Hid (∃ st ln,Sc wr w0 sp m1 ga m2 (tws st.ws) (tws st.ws) bv uvs rv rs st ln∧OkSt cs us st∧settleP rs last f st=(R1,R2)∧64*cs.length<f+tws st.ws))
 case atStart=>exact H0
 case round=>
  clear H0
  obtain ⟨wo,rfl⟩:∃ wo,wo=wr:=⟨_,rfl⟩
  obtain ⟨s0,l0,hS,hO,hR,hF⟩:=hrel.out
  clear hrel
  obtain ⟨f,rfl⟩:∃ f,gk=f+1:=by
   have h1:=tws_bound s0.ws (fun i hi=>(hO.wb i (by rw [←hO.wl];exact hi)).2)
   rw [hO.wl] at h1
   exact ⟨gk - 1,by omega⟩
  have HS:Hid (Sc wo w0 sp m1 ga m2 (tws s0.ws) (tws s0.ws) bv uvs rv rs s0 l0):=hS
  have HO:Hid (OkSt cs us s0):=hO
  have HF:Hid (64*cs.length<f+1+tws s0.ws):=hF
  have HR:Hid (settleP rs last (f+1) s0=(R1,R2)):=hR
  obtain ⟨na,hna⟩:∃ na,cs.length=na:=⟨_,rfl⟩
  have HNA:Hid (cs.length=na):=hna
  have hlast:(last:Int)<(na:Int):=by have:=HCL.out;omega
  have hnaI:(na:Int)≤256:=by have:=HCL.out;omega
  have d1:wo.cell? ⟨sp,1,none⟩=some (.map (some m1)):=by rw [cell_of hS.blk];simp
  have d2:wo.cell? ⟨sp,2,none⟩=some (.slice (some ⟨ga,0,none⟩) na na):=by rw [cell_of hS.blk];simp [hO.al,hna]
  clear hS hO hR hF hna
  go_wp2
  go_loopw [8] (fun vi wx=>∃ k:Nat,vi = .int .i64 k∧k≤last+1∧Hid (look s0 (last+1) 0=look s0 (last+1 - k) k)∧Grown wo wx) (fun vi _=>last+1 - (intOf vi).toNat)
  case atStart=>exact ⟨0,rfl,by omega,rfl,Grown.refl _⟩
  case round=>
   obtain ⟨k,rfl,hk,HL,hG⟩:=hrel
   have hk0:(0:Int)≤(k:Int):=by omega
   by_cases hlt:k<last+1
   · have hlt':(k:Int)<(last:Int)+1:=by omega
     have hkn:k<cs.length:=by have:=HCL.out;omega
     have hSx:=HS.out.grown hG
     have hab:=HO.out.ab hkn
     have hwb:=HO.out.wb k hkn
     have hka:k<s0.aq.length:=by rw [HO.out.al];exact hkn
     have hkw:k<s0.ws.length:=by rw [HO.out.wl];exact hkn
     have e2:=hG.cellv d2
     have e1:=hG.cellv d1
     have ya:wr.cell? ⟨ga,k,none⟩=some (.int .i64 (at0 s0.aq k)):=by rw [cell_of hSx.asb];simp [ints,at0,hka]
     have hlk:(Instr.lookup 117 (.map (some m1)) (.int .i64 k) false).run Tryz.prog wr.drew = .ok (.int .i64 (at0 s0.ws k)) wr.drew:=by
      have:=(hSx.grown (Grown.refl _).drew).wm.look (t:=117) (e:=3) Tryz.underlying117 (zero3 _) (k:=(k:Int)) ⟨by omega,by omega⟩
      rw [this,wsF_nat hkw]
      rfl
     have hkna:(k:Int)<(na:Int):=by omega
     have HL2:Hid (look s0 (last+1) 0=if 64<at0 s0.aq k∨at0 s0.ws k<at0 s0.aq k then some k else look s0 (last+1 - (k+1)) (k+1)):=by
      show _=_
      rw [HL.out,show last+1 - k=(last+1 - (k+1))+1 by omega,look]
     have HLC:Hid (64 ≥ at0 s0.aq k→at0 s0.ws k<at0 s0.aq k→∀ wz,Grown wo wz→Calls Tryz.prog 165 #[.pointer (some ⟨sp,0,none⟩),.int .i64 k] wz fun e w'=>∃ ln',e = .returned (.tuple #[])∧Sc w' w0 sp m1 ga m2 (tws s0.ws+1) (tws s0.ws+1) bv uvs rv rs (liftP rs k s0) ln'):=fun h1 h2 wz hz=>by
      have hb:=tws_bound s0.ws (fun i hi=>(HO.out.wb i (by rw [←HO.out.wl];exact hi)).2)
      rw [HO.out.wl] at hb
      have hc:=HCL.out
      exact lift_any k (HS.out.grown hz) HO.out hc.1 (by omega) HK.out HU.out (by omega) (by omega) h2 h1
     obtain ⟨aa,haa⟩:∃ aa,at0 s0.aq k=aa:=⟨_,rfl⟩
     obtain ⟨ww,hww⟩:∃ ww,at0 s0.ws k=ww:=⟨_,rfl⟩
     have HAW:Hid (at0 s0.aq k=aa∧at0 s0.ws k=ww):=⟨haa,hww⟩
     rw [haa] at hab ya HL2 HLC
     rw [hww] at hwb hlk HL2 HLC
     clear hSx HL haa hww hka hkw
     by_cases hc1:64<aa
     · as_aux_lemma=>
        have HE:Hid (R1=false∧R2=s0):=by
         have h1:=HL2.out
         rw [if_pos (.inl hc1)] at h1
         have h2:=HR.out
         rw [settleP,h1] at h2
         simp only at h2
         rw [if_pos (by rw [HAW.out.1];exact hc1)] at h2
         injection h2 with h3 h4
         exact ⟨h3.symm,h4.symm⟩
        clear HL2 HLC HR HF
        go_wp2
        go_ret
        refine ⟨l0,by rw [HE.out.1];rfl,?_,?_⟩
        · rw [HE.out.2];exact HS.out.grown hG
        · rw [HE.out.2];exact HO.out
     · by_cases hc2:ww<aa
       · as_aux_lemma=>
          have HE:Hid (settleP rs last f (liftP rs k s0)=(R1,R2)):=by
           have h1:=HL2.out
           rw [if_pos (.inr hc2)] at h1
           have h2:=HR.out
           rw [settleP,h1] at h2
           simp only at h2
           rw [if_neg (by rw [HAW.out.1];exact hc1)] at h2
           exact h2
          have HOL:Hid (OkSt cs us (liftP rs k s0)∧tws s0.ws+1≤tws (liftP rs k s0).ws):=by
           refine ⟨HO.out.lift rs hkn (by rw [HAW.out.1,HAW.out.2];exact hc2) (by rw [HAW.out.1];omega),?_⟩
           rw [liftP_ws]
           have:=tws_set s0.ws k (at0 s0.aq k) (by rw [HO.out.wl];exact hkn)
           rw [HAW.out.1,HAW.out.2] at this
           rw [HAW.out.1]
           omega
          have HCC:Hid (∀ wz,Grown wo wz→Calls Tryz.prog 165 #[.pointer (some ⟨sp,0,none⟩),.int .i64 k] wz fun e w'=>∃ ln',e = .returned (.tuple #[])∧Sc w' w0 sp m1 ga m2 (tws s0.ws+1) (tws s0.ws+1) bv uvs rv rs (liftP rs k s0) ln'):=HLC.out (by omega) hc2
          clear HL2 HLC HR
          go_wp2
          go_region
          go_wp2_with (go_at_call 165;refine (HCC.out _ hG.drew).mono ?_;rintro e w' ⟨ln',rfl,hS'⟩)
          go_roundg f
          case measure=>omega
          case rel=>exact ⟨liftP rs k s0,ln',hS'.mono HOL.out.2 HOL.out.2,HOL.out.1,HE.out,by have h1:=HOL.out.2;have h2:=HF.out;omega⟩
       · as_aux_lemma=>
          have HL3:Hid (look s0 (last+1) 0=look s0 (last+1 - (k+1)) (k+1)):=by
           show _=_
           rw [HL2.out,if_neg (fun h=>h.elim hc1 hc2)]
          clear HL2 HLC HR HF
          go_wp2
          go_region
          go_wp2
          exact ⟨⟨k+1,by go_num,by omega,HL3,hG.drew⟩,by simp [intOf];omega⟩
   · as_aux_lemma=>
      have hge:¬ (k:Int)<(last:Int)+1:=by omega
      have HE:Hid (R1=true∧R2=s0):=by
       have h1:=HL.out
       rw [show last+1 - k=0 by omega,look] at h1
       have h2:=HR.out
       rw [settleP,h1] at h2
       injection h2 with h3 h4
       exact ⟨h3.symm,h4.symm⟩
      clear HL HR HF
      go_wp2
      go_ret
      refine ⟨l0,by rw [HE.out.1];rfl,?_,?_⟩
      · rw [HE.out.2];exact HS.out.grown hG
      · rw [HE.out.2];exact HO.out
theorem wsum_pbs (n i:Nat):∀ l:List Pc,wsum (pbs n l) i=if n=i then ((pbs n l).length:Int) else 0
 | []=>by simp [pbs,wsum]
 | p::l=>by
  have ih:=wsum_pbs n i l
  simp only [pbs]
  split
  · exact ih
  · simp only [wsum,ih,List.length_cons]
    split <;> omega
theorem wsum_bkI (rs:List Rl) (i:Nat):∀ k,wsum (bkI rs k) i=if i<k then ((pbs i ((rs[i]?.map backP).getD [])).length:Int) else 0
 | 0=>by simp [bkI,wsum]
 | k+1=>by
  rw [bkI,wsum_append,wsum_bkI rs i k,wsum_pbs]
  by_cases h1:i<k
  · rw [if_pos h1,if_neg (by omega),if_pos (by omega)];omega
  · rw [if_neg h1]
    by_cases h2:k=i
    · subst h2;rw [if_pos rfl,if_pos (by omega)];omega
    · rw [if_neg h2,if_neg (by omega)];omega
theorem pbs_mem {n:Nat} : ∀ {l:List Pc} {b:Pb},b∈pbs n l→b.r=n∧b.wt=1∧∃ p∈l,b.us=mayB p
 | [],b,h=>by simp [pbs] at h
 | p::l,b,h=>by
  simp only [pbs] at h
  split at h
  · obtain ⟨h1,h2,q,h3,h4⟩:=pbs_mem h
    exact ⟨h1,h2,q,List.mem_cons_of_mem _ h3,h4⟩
  · rcases List.mem_cons.1 h with rfl | h
    · exact ⟨rfl,rfl,p,List.mem_cons_self,rfl⟩
    · obtain ⟨h1,h2,q,h3,h4⟩:=pbs_mem h
      exact ⟨h1,h2,q,List.mem_cons_of_mem _ h3,h4⟩
theorem bkI_mem {rs:List Rl} : ∀ {k:Nat} {b:Pb},b∈bkI rs k→b.r<k∧b.wt=1∧∃ r∈rs,∃ p∈backP r,b.us=mayB p
 | 0,b,h=>by simp [bkI] at h
 | k+1,b,h=>by
  rw [bkI] at h
  rcases List.mem_append.1 h with h | h
  · obtain ⟨h1,h2,h3⟩:=bkI_mem h
    exact ⟨by omega,h2,h3⟩
  · obtain ⟨h1,h2,p,h3,h4⟩:=pbs_mem h
    refine ⟨by omega,h2,?_⟩
    cases hk:rs[k]? with
    | none=>rw [hk] at h3;simp at h3
    | some r=>
     rw [hk] at h3
     exact ⟨r,List.mem_of_getElem? hk,p,by simpa using h3,h4⟩
def csI (rs:List Rl):List Int:=(List.range rs.length).map fun i=>at0 (stK rs rs.length).aq i - wsum (bkI rs rs.length) i
theorem csI_len (rs:List Rl):(csI rs).length=rs.length:=by simp [csI]
theorem csI_at {rs:List Rl} {i:Nat} (h:i<rs.length):at0 (csI rs) i=at0 (stK rs rs.length).aq i - wsum (bkI rs rs.length) i:=by
 rw [at0_lt (by rw [csI_len];exact h)]
 simp [csI]
theorem stK_all (rs:List Rl):stK rs rs.length=⟨List.replicate rs.length 1,rs.map askI,bkI rs rs.length⟩:=by simp [stK]
theorem okSt_start {rs:List Rl} (hO:∀ r∈rs,Ok r) (hn:rs.length≤256):OkSt (csI rs) ((bkI rs rs.length).map Pb.us) (stK rs rs.length):=by
 have hl:=csI_len rs
 refine ⟨by omega,by rw [stK_all];simp [hl],by rw [stK_all];simp [hl],fun i hi => ?_,fun b hb => ?_,?_,fun i hi => ?_,fun i hi => ?_,by rw [stK_all]⟩
 · rw [hl] at hi
   rw [stK_all]
   simp [at0,hi]
 · rw [stK_all] at hb
   obtain ⟨h1,h2,_⟩:=bkI_mem hb
   omega
 · rw [stK_all]
   have:=bkI_len (fun r hr=>(hO r hr).r16) rs.length
   show (bkI rs rs.length).length≤4096
   omega
 · rw [hl] at hi
   rw [csI_at hi,wsum_bkI,if_pos hi,stK_all,List.getElem?_eq_getElem hi]
   have hr:=hO _ (List.getElem_mem hi)
   have h1:=pbs_len i (backP rs[i])
   have h2:(backP rs[i]).length≤16:=by have:=hr.r16;simp [backP];omega
   have h3:=hr.k8
   have h4:at0 (rs.map askI) i=askI rs[i]:=by simp [at0,hi]
   show -100≤at0 (rs.map askI) i - _∧at0 (rs.map askI) i - _≤100
   rw [h4]
   unfold askI
   simp only [Option.map_some,Option.getD_some]
   omega
 · rw [hl] at hi
   rw [csI_at hi,stK_all]
   simp only
   omega
theorem mayB_len {r:Rl} (hO:Ok r) {p:Pc} (hp:p∈backP r):(mayB p).length≤512:=by
 unfold mayB
 split
 · rename_i h3
   rcases pc_ok (hO.pc p (List.mem_of_mem_drop hp)) with ⟨h1,_⟩ | ⟨h1,_⟩ | ⟨_,_,_,_,hm⟩
   · omega
   · omega
   · unfold matB at hm
     simp only [Bool.and_eq_true] at hm
     exact ((validB_iff _).1 hm.1).1
 · simp
theorem us_len {rs:List Rl} (hO:∀ r∈rs,Ok r):∀ u∈(bkI rs rs.length).map Pb.us,u.length≤512:=fun u hu=>by
 obtain ⟨b,hb,rfl⟩:=List.mem_map.1 hu
 obtain ⟨_,_,r,hr,p,hp,e⟩:=bkI_mem hb
 rw [e]
 exact mayB_len (hO r hr) hp
theorem kok_of {rs:List Rl} (hO:∀ r∈rs,Ok r) (hn:rs.length≤256):Kok rs:=by
 refine ⟨fun r hr=>(hO r hr).k0,fun r hr => ?_,hn⟩
 have h0:=(hO r hr).k0
 have:=List.all_eq_true.1 (hO r hr).kS _ (List.getElem_mem h0)
 unfold okS at this
 simp only [Bool.and_eq_true] at this
 have e:keyAt r.key 0=r.key[0]:=by simp [keyAt,h0]
 rw [e]
 exact ((validB_iff _).1 this.1).1
theorem fstR_ok:∀ {rs:List Rl} {k:Nat},(fstR rs k).2=0→∀ r∈rs,chk r=0
 | [],_,_,r,h=>by cases h
 | q::l,k,h,r,hr=>by
  unfold fstR at h
  by_cases hq:chk q=0
  · rw [if_pos hq] at h
    rcases List.mem_cons.1 hr with rfl | hr
    · exact hq
    · exact fstR_ok h r hr
  · rw [if_neg hq] at h
    exact absurd h hq
theorem allE_ok {rs:List Rl} (h:(allE rs).2=0):rs.length≤256∧∀ r∈rs,Ok r:=by
 unfold allE at h
 by_cases hn:256<rs.length
 · rw [if_pos hn] at h;cases h
 · rw [if_neg hn] at h
   exact ⟨by omega,fun r hr=>chk_ok (fstR_ok h r hr)⟩
def fstC:List Rl→Nat→Option Nat
 | [],_=>none
 | r::l,k=>if copB r then some k else fstC l (k+1)
def settleAll (rs:List Rl):Nat→Nat→St→Option Nat × St
 | 0,_,st=>(none,st)
 | k+1,n,st=>if (settleP rs n (64*rs.length+1) st).1 then settleAll rs k (n+1) (settleP rs n (64*rs.length+1) st).2 else (some n,(settleP rs n (64*rs.length+1) st).2)
def wgh (rs:List Rl):Option St × Int × Int:=
 if (allE rs).2≠0 then (none,(allE rs).1,(allE rs).2)
 else match fstC rs 0 with
  | some n=>(none,(n:Int),80)
  | none=>match settleAll rs rs.length 0 (stK rs rs.length) with
   | (some n,_)=>(none,(n:Int),81)
   | (none,st)=>(some st,0,0)
theorem tws_ones (n:Nat):tws (List.replicate n 1)=n:=by
 induction n with
 | zero=>rfl
 | succ n ih=>rw [List.replicate_succ,tws,ih];simp;omega
def Sca (w':World) (B:Nat) (sp:Nat) (rv:Value) (rs:List Rl) (st:St):Prop:=
 ∃ w0 m1 ga m2 N1 N2 bv uvs ln,B≤w0.heap.size∧Sc w' w0 sp m1 ga m2 N1 N2 bv uvs rv rs st ln∧OkSt (csI rs) ((bkI rs rs.length).map Pb.us) st
def WgQ (w:World) (rv:Value) (rs:List Rl) (e:Ending) (w':World):Prop:=
 Below w.heap.size w w'∧((∃ c,(wgh rs)=(none,c)∧e = .returned (.tuple #[.pointer none,.int .i64 c.1,.int .i64 c.2]))∨∃ st sp,wgh rs=(some st,0,0)∧e = .returned (.tuple #[.pointer (some ⟨sp,0,none⟩),.int .i64 0,.int .i64 0])∧Sca w' w.heap.size sp rv rs st)
theorem box_cell {w wr:World} {rv:Value} (hb:Below (w.heap.size+1) (w.alloc (.cells #[rv] 24)) wr):wr.cell? ⟨w.heap.size,0,none⟩=some rv:=by
 rw [hb.cell (p:=⟨w.heap.size,0,none⟩) (by simp),cell_of (heap_alloc_new w _)]
 rfl
theorem box_below {w wr:World} {ob:Obj} (hb:Below (w.heap.size+1) (w.alloc ob) wr):Below w.heap.size w wr:=(((Grown.refl w).alloc ob).below).trans (hb.mono (Nat.le_succ _))
structure WL (w:World) (rv:Value) (rs:List Rl) (sp m1 ga m2:Nat) (bv:Value) (uvs:List Value) (w0:World) (E:Option Nat × St) (k:Nat) (wr:World):Prop where
 h:∃ st ln,settleAll rs (rs.length - k) k st=E∧Sc wr w0 sp m1 ga m2 (tws st.ws) (tws st.ws) bv uvs rv rs st ln∧OkSt (csI rs) ((bkI rs rs.length).map Pb.us) st
 b:Below (w.heap.size+1) (w.alloc (.cells #[rv] 24)) w0
theorem WL.below {w:World} {rv:Value} {rs:List Rl} {sp m1 ga m2:Nat} {bv:Value} {uvs:List Value} {w0:World} {E:Option Nat × St} {k:Nat} {wr:World} (h:WL w rv rs sp m1 ga m2 bv uvs w0 E k wr):Below (w.heap.size+1) (w.alloc (.cells #[rv] 24)) wr:=by
 obtain ⟨st,ln,_,hS,_⟩:=h.h
 refine h.b.trans (hS.bel.mono ?_)
 have:=h.b.size
 simpa using this
set_option maxHeartbeats 8000000 in
theorem weighed_any (rv:Value) (rs:List Rl) (w:World) (hT:Tab w) (h:PsR w rv rs):Calls Tryz.prog 97 #[.agg #[rv]] w (WgQ w rv rs):=by
 have HP:Hid (∀ W,Below w.heap.size w W→PsR W rv rs):=fun W hW=>h.below hW (Nat.le_refl _)
 have HTT:Hid (∀ W,Below w.heap.size w W→Tab W):=fun W hW=>hT.below hW hT.pos
 have HA:Hid (∀ W,Grown w W→Calls Tryz.prog 130 #[.agg #[rv]] W fun e w'=>e = .returned (.tuple #[.int .i64 (allE rs).1,.int .i64 (allE rs).2])∧Grown W w'):=fun W hW=>all_any rv rs W (hT.grown hW) (h.grown hW)
 obtain ⟨ra,rc,rfl,_,hrr⟩:=h
 obtain ⟨n,hn⟩:∃ n,rs.length=n:=⟨_,rfl⟩
 have HN:Hid (rs.length=n):=hn
 rw [hn] at HP HA ⊢
 obtain ⟨e1,he1⟩:∃ e1,(allE rs).1=e1:=⟨_,rfl⟩
 obtain ⟨e2,he2⟩:∃ e2,(allE rs).2=e2:=⟨_,rfl⟩
 have HE:Hid ((allE rs).1=e1∧(allE rs).2=e2):=⟨he1,he2⟩
 rw [he1,he2] at HA
 clear hT hn he1 he2 hrr
 by_cases hq:e2=0
 · subst hq
   have HOK:=allE_ok HE.out.2
   have HO:Hid (∀ r∈rs,Ok r):=HOK.2
   have hn256:n≤256:=by rw [←HN.out];exact HOK.1
   have hnI:(n:Int)≤256:=by omega
   clear HOK
   obtain ⟨C,hC⟩:∃ C,fstC rs 0=C:=⟨_,rfl⟩
   have HC:Hid (fstC rs 0=C):=hC
   clear hC
   go_enter Tryz.func97,Tryz.ntmps97
   go_wp2_with fail
   refine (HA.out _ ((Grown.refl _).alloc _)).mono ?_
   rintro e w1 ⟨rfl,hG1⟩
   have HB1:Hid (Below (w.heap.size+1) (w.alloc (.cells #[.slice ra n rc] 24)) w1):=by have:=hG1.below;simpa [Hid] using this
   have d0:w1.cell? ⟨w.heap.size,0,none⟩=some (.slice ra n rc):=box_cell HB1.out
   clear hG1 HA
   go_wp2
   go_loopw [23] (fun vi wr=>∃ k:Nat,vi = .int .i64 k∧k≤n∧Hid (fstC (rs.drop k) k=C)∧Hid (Below (w.heap.size+1) (w.alloc (.cells #[.slice ra n rc] 24)) wr)) (fun vi _=>n - (intOf vi).toNat)
   case atStart=>exact ⟨0,rfl,by omega,HC,HB1⟩
   case round=>
    obtain ⟨k,rfl,hk,HF,HB⟩:=hrel
    clear HB1 d0
    have hk0:(0:Int)≤(k:Int):=by omega
    by_cases hlt:k<n
    · have hlt':(k:Int)<(n:Int):=by omega
      have hkl:k<rs.length:=by rw [HN.out];exact hlt
      obtain ⟨a',c',e',_,hPr⟩:=HP.out wr (box_below HB.out)
      obtain ⟨g,o,ha',hRA⟩:=hPr.resolve_left (fun e=>by rw [e] at hkl;simp at hkl)
      injection e' with q1 q2 q3
      clear q2 q3
      rw [ha'] at q1
      subst q1
      obtain ⟨av,kv,pv,rv',r0,r1,r2,r3,r4,r5,r6,hRR⟩:=hRA k hkl
      have hOk:=HO.out _ (List.getElem_mem hkl)
      have HCC:Hid (∀ ob,Calls Tryz.prog 131 #[.agg #[.bool rs[k].bg,av,kv,pv,.bool rs[k].en,rv',.int .i64 rs[k].cu]] (wr.alloc ob) fun e w'=>e = .returned (.bool (copB rs[k]))∧Below (w.heap.size+1) (w.alloc (.cells #[.slice (some ⟨g,o,none⟩) n rc] 24)) w'):=fun ob=>by
       have hg:Grown wr (wr.alloc ob):=(Grown.refl _).alloc ob
       refine (copies_any rs[k] av kv pv rv' (wr.alloc ob) (hRR.grown hg) hOk).mono ?_
       rintro e w' ⟨rfl,hb⟩
       refine ⟨rfl,HB.out.trans ((hg.below.trans (hb.mono hg.size)).mono ?_)⟩
       have:=HB.out.size
       simpa using this
      have hF2:=HF.out
      rw [drop_rl hkl] at hF2
      unfold fstC at hF2
      obtain ⟨a1,n1,c1,rfl⟩:=hRR.a.sl
      obtain ⟨a2,n2,c2,rfl⟩:=hRR.k.sl
      obtain ⟨a3,n3,c3,rfl⟩:=hRR.p.sl
      obtain ⟨a5,n5,c5,rfl⟩:=hRR.r.sl
      generalize copB rs[k]=cb at HCC hF2
      generalize rs[k].bg=xb at *
      generalize rs[k].en=xe at *
      generalize rs[k].cu=xc at *
      clear hRR hRA hPr ha' hOk HF HB
      cases cb with
      | true=>
       as_aux_lemma=>
        have HX:Hid (C=some k):=by show C=some k;simpa using hF2.symm
        clear hF2
        go_wp2_with (go_at_call 131;refine (HCC.out _).mono ?_;rintro e w' ⟨rfl,hb⟩)
        refine bodyPost_ret (v := .tuple #[.pointer none,.int .i64 k,.int .i64 80]) (by simp [results,Tryz.f97,go_sem]) rfl ⟨box_below hb,.inl ⟨((k:Int),80),?_,rfl⟩⟩
        unfold wgh
        rw [if_neg (by rw [HE.out.2];simp),HC.out,HX.out]
      | false=>
       as_aux_lemma=>
        have HX:Hid (fstC (rs.drop (k+1)) (k+1)=C):=by show _=C;simpa using hF2
        clear hF2
        go_wp2_with (go_at_call 131;refine (HCC.out _).mono ?_;rintro e w' ⟨rfl,hb⟩)
        exact ⟨⟨k+1,by go_num,by omega,HX,hb⟩,by simp [intOf];omega⟩
    · have hge:¬ (k:Int)<(n:Int):=by omega
      have HX:Hid (C=none):=by
       have:=HF.out
       rw [List.drop_eq_nil_of_le (by rw [HN.out];omega),fstC] at this
       exact this.symm
      have d0:wr.cell? ⟨w.heap.size,0,none⟩=some (.slice ra n rc):=box_cell HB.out
      have HNS:Hid (Calls Tryz.prog 132 #[.slice ra n rc] wr (NsQ wr (.slice ra n rc) rs)):=newScale_any _ rs wr (HP.out wr (box_below HB.out)) HO.out (by rw [HN.out];exact hn256)
      clear HF
      go_wp2_with fail
      refine HNS.out.mono ?_
      rintro e w2 ⟨sp,m1,ga,m2,bv,uvs,rfl,hS2⟩
      have hwl:tws (stK rs rs.length).ws=rs.length:=by rw [stK_all];exact tws_ones _
      obtain ⟨E,hE⟩:∃ E,settleAll rs rs.length 0 (stK rs rs.length)=E:=⟨_,rfl⟩
      have HSE:Hid (settleAll rs rs.length 0 (stK rs rs.length)=E):=hE
      have HW0:Hid (WL w (.slice ra n rc) rs sp m1 ga m2 bv uvs wr E 0 w2):=by
       refine ⟨⟨stK rs rs.length,fun _=>none,by rw [Nat.sub_zero];exact hE,hS2.mono (by rw [hwl];exact Nat.le_refl _) (Nat.zero_le _),okSt_start HO.out (by rw [HN.out];exact hn256)⟩,HB.out⟩
      have d2:w2.cell? ⟨w.heap.size,0,none⟩=some (.slice ra n rc):=box_cell HW0.out.below
      have HK:Hid (Kok rs):=kok_of HO.out (by rw [HN.out];exact hn256)
      have HU:Hid (∀ u∈(bkI rs rs.length).map Pb.us,u.length≤512):=us_len HO.out
      have HBW:Hid (Below (w.heap.size+1) (w.alloc (.cells #[.slice ra n rc] 24)) wr):=HB
      obtain ⟨wn,hwn⟩:∃ wn,wn=wr:=⟨_,rfl⟩
      rw [←hwn] at HW0 HBW
      clear hE hS2 hwl HNS d0 HB hwn
      go_wp2
      go_loopw [38] (fun vi wx=>∃ k:Nat,vi = .int .i64 k∧k≤n∧Hid (WL w (.slice ra n rc) rs sp m1 ga m2 bv uvs wn E k wx)) (fun vi _=>n - (intOf vi).toNat)
      case atStart=>exact ⟨0,rfl,by omega,HW0⟩
      case round=>
       obtain ⟨k,rfl,hk,HW⟩:=hrel
       clear HW0 d2
       have hk0:(0:Int)≤(k:Int):=by omega
       by_cases hlt:k<n
       · have hlt':(k:Int)<(n:Int):=by omega
         have hkl:k<rs.length:=by rw [HN.out];exact hlt
         obtain ⟨st,ln,hA,hS,hO⟩:=HW.out.h
         have HCC:Hid (Calls Tryz.prog 133 #[.pointer (some ⟨sp,0,none⟩),.int .i64 k] wr (SeQ wn sp m1 ga m2 bv uvs (.slice ra n rc) rs (csI rs) ((bkI rs rs.length).map Pb.us) (settleP rs k (64*rs.length+1) st).1 (settleP rs k (64*rs.length+1) st).2)):=
          settle_any k (64*rs.length+1) hS hO (csI_len rs) hkl HK.out HU.out (by rw [csI_len];omega)
         rw [show rs.length - k=(rs.length - (k+1))+1 by omega,settleAll] at hA
         obtain ⟨R1,hR1⟩:∃ R1,(settleP rs k (64*rs.length+1) st).1=R1:=⟨_,rfl⟩
         obtain ⟨R2,hR2⟩:∃ R2,(settleP rs k (64*rs.length+1) st).2=R2:=⟨_,rfl⟩
         rw [hR1,hR2] at HCC hA
         clear hS hO hR1 hR2 HW
         cases R1 with
         | true=>
          as_aux_lemma=>
           have HA2:Hid (settleAll rs (rs.length - (k+1)) (k+1) R2=E):=by show _=E;simpa using hA
           clear hA
           go_wp2_with (go_at_call 133;refine HCC.out.mono ?_;rintro e w' ⟨ln',rfl,hS',hO'⟩)
           exact ⟨⟨k+1,by go_num,by omega,⟨R2,ln',HA2.out,hS',hO'⟩,HBW.out⟩,by simp [intOf];omega⟩
         | false=>
          as_aux_lemma=>
           have HA2:Hid (E=(some k,R2)):=by show E=_;simpa using hA.symm
           clear hA
           go_wp2_with (go_at_call 133;refine HCC.out.mono ?_;rintro e w' ⟨ln',rfl,hS',hO'⟩)
           have hb:Below w.heap.size w w':=(box_below HBW.out).trans (hS'.bel.mono (box_below HBW.out).size)
           refine bodyPost_ret (v := .tuple #[.pointer none,.int .i64 k,.int .i64 81]) (by simp [results,Tryz.f97,go_sem]) rfl ⟨hb,.inl ⟨((k:Int),81),?_,rfl⟩⟩
           unfold wgh
           rw [if_neg (by rw [HE.out.2];simp),HC.out,HX.out]
           simp only
           rw [HSE.out,HA2.out]
       · as_aux_lemma=>
          have hge:¬ (k:Int)<(n:Int):=by omega
          go_wp2
          obtain ⟨st,ln,hA,hS,hO⟩:=HW.out.h
          rw [show rs.length - k=0 by have:=HN.out;omega,settleAll] at hA
          have hb:Below w.heap.size w wr:=(box_below HBW.out).trans (hS.bel.mono (box_below HBW.out).size)
          refine bodyPost_ret (v := .tuple #[.pointer (some ⟨sp,0,none⟩),.int .i64 0,.int .i64 0]) (by simp [results,Tryz.f97,go_sem]) rfl ⟨hb,.inr ⟨st,sp,?_,rfl,wn,m1,ga,m2,_,_,bv,uvs,ln,(box_below HBW.out).size,hS,hO⟩⟩
          unfold wgh
          rw [if_neg (by rw [HE.out.2];simp),HC.out,HX.out]
          simp only
          rw [HSE.out,←hA]
 · have hq':(e2 != 0)=true:=by simpa using hq
   go_enter Tryz.func97,Tryz.ntmps97
   go_wp2_with (go_at_call 130;refine (HA.out _ ((Grown.refl _).alloc _)).mono ?_;rintro e w1 ⟨rfl,hG1⟩)
   refine bodyPost_ret (v := .tuple #[.pointer none,.int .i64 e1,.int .i64 e2]) (by simp [results,Tryz.f97,go_sem]) rfl ⟨(((Grown.refl w).alloc _).trans hG1).below,.inl ⟨(e1,e2),?_,rfl⟩⟩
   unfold wgh
   rw [if_pos (by rw [HE.out.2];exact hq),HE.out.1,HE.out.2]
def wgtK (rs:List Rl) (ws:List Int) (u:Int):Nat→Int
 | 0=>1
 | k+1=>if wgtK rs ws u k<at0 ws k∧hasB (fstS rs k) u=true then at0 ws k else wgtK rs ws u k
def chkW (rs:List Rl):Int × Int:=(wgh rs).2
def wgtP (rs:List Rl) (u:Int):Int:=match (wgh rs).1 with
 | none=>0
 | some st=>if wd u=0 then 0 else wgtK rs st.ws u rs.length
theorem wgh_some {rs:List Rl} {st:St} {c:Int × Int} (h:wgh rs=(some st,c)):rs.length≤256∧∀ r∈rs,Ok r:=by
 unfold wgh at h
 by_cases h0:(allE rs).2≠0
 · rw [if_pos h0] at h;injection h with h1;cases h1
 · exact allE_ok (Classical.not_not.1 h0)
theorem wgh_none {rs:List Rl} {c:Int × Int} (h:wgh rs=(none,c)):c.2≠0:=by
 unfold wgh at h
 by_cases h0:(allE rs).2≠0
 · rw [if_pos h0] at h;injection h with _ h1;rw [←h1];exact h0
 · rw [if_neg h0] at h
   split at h
   · injection h with _ h1;rw [←h1];simp
   · split at h
     · injection h with _ h1;rw [←h1];simp
     · injection h with h1;cases h1
set_option maxHeartbeats 2000000 in
theorem wcheck_any (rv:Value) (rs:List Rl) (w:World) (hT:Tab w) (h:PsR w rv rs):Calls Tryz.prog 66 #[.agg #[rv]] w fun e w'=>e = .returned (.tuple #[.int .i64 (chkW rs).1,.int .i64 (chkW rs).2])∧Below w.heap.size w w':=by
 have HC:Hid (∀ ob,Calls Tryz.prog 97 #[.agg #[rv]] (w.alloc ob) fun e w'=>∃ p,e = .returned (.tuple #[.pointer p,.int .i64 (chkW rs).1,.int .i64 (chkW rs).2])∧Below w.heap.size w w'):=fun ob=>by
  have hg:Grown w (w.alloc ob):=(Grown.refl _).alloc ob
  refine (weighed_any rv rs (w.alloc ob) (hT.grown hg) (h.grown hg)).mono ?_
  rintro e w' ⟨hb,⟨c,h1,rfl⟩ | ⟨st,sp,h1,rfl,_⟩⟩
  · exact ⟨none,by unfold chkW;rw [h1],hg.below.trans (hb.mono hg.size)⟩
  · exact ⟨_,by unfold chkW;rw [h1],hg.below.trans (hb.mono hg.size)⟩
 generalize (chkW rs).1=c1 at HC ⊢
 generalize (chkW rs).2=c2 at HC ⊢
 obtain ⟨ra,rc,rfl,_,_⟩:=h
 go_enter Tryz.func66,Tryz.ntmps66
 go_wp2_with (go_at_call 97;refine (HC.out _).mono ?_;rintro e w' ⟨p,rfl,hb⟩)
 exact bodyPost_ret (v := .tuple #[.int .i64 c1,.int .i64 c2]) (by simp [results,Tryz.f66,go_sem]) rfl ⟨rfl,hb⟩
end Go.Proofs
