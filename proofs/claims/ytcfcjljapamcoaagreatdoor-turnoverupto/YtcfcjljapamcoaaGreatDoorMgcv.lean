/-
  Several texts in one (Ej Eg El Em En Eo Fa Fb Ha Hb).
-/
import Derived.RangeFuncNested
import Derived.RangeFuncBound
import Derived.RangeFuncCalls
import Derived.RangeFuncLeaves
import Derived.Shelf.Abstract
import Derived.Shelf.RegionOpen
import Derived.WalkKit
import Derived.WalkSpells
import Derived.WalkLawsBesides
import Derived.OwnWalkIn
import Derived.TacticsInMore
import Derived.LoopNIn
import Derived.LoopIn
import Derived.BigQuiet
import Derived.RegionIn
import Derived.Deep.QuietTactic
import Derived.Deep.RegionWith
import Derived.Lib.OthersKept
import Derived.Maps.AppendAt
import Derived.Lib.SmallJoins
import Derived.Shelf.SlSortCmp.QuietGrown
import Derived.Deep.AppendLies
import Derived.Laws.OwnMore
import Derived.Carry
import Derived.Deep.RegionLaw
import Derived.Test.YtcfcjljapamcoaaGreatDoorMgbv
import Derived.Deep.LoopGhost
import Derived.Scope
namespace Go.Proofs
open Go.RowKit Go.Shelf
set_option maxRecDepth 100000
attribute [local go_sem] Oper.semAt_some
attribute [local go_sem ↓] Go.wp_at_zero Go.wp_at_succ
theorem make_zero (n:Nat) (hn:n≤1000000) (W:World):(Instr.makeSlice 49 (.int .i64 n) (.int .i64 n)).run Tryz.prog W = .ok (.slice (some ⟨W.heap.size,0,none⟩) n n) (W.alloc (.cells (ints (List.replicate n 0)).toArray 3)):=by
 obtain ⟨i0,hi,hz0,hz1,hz2⟩:=info_parts iinfo3
 have h:=run_make (P:=Tryz.prog) W 49 3 i0 (.int .i64 0) Tryz.underlying49 hi hz0 .i64 .i64 (n:Int) (n:Int) (by omega) (Int.le_refl _) (by rw [hz2];omega) (by omega)
 rw [h,show (n:Int).toNat=n by omega,hz1,Nat.mul_one]
 congr 3
 rw [←Array.toList_inj]
 show (madeCells #[.int .i64 0] n).toList=_
 rw [toList_madeCells_one]
 simp [ints]
def stK (rs:List Rl) (k:Nat):St:=⟨List.replicate k 1,(rs.take k).map askI++List.replicate (rs.length - k) 0,bkI rs k⟩
def aqJ (rs:List Rl) (k:Nat) (x:Int):List Int:=(rs.take k).map askI++x::List.replicate (rs.length - (k+1)) 0
def stJ (rs:List Rl) (k j:Nat) (r:Rl):St:=⟨List.replicate (k+1) 1,aqJ rs k (2 - (r.key.length:Int)+(j:Nat)),bkI rs k++pbs k ((backP r).take j)⟩
theorem take_len {rs:List Rl} {k:Nat} (h:k<rs.length):((rs.take k).map askI).length=k:=by simp;omega
theorem aqJ_len {rs:List Rl} {k:Nat} (h:k<rs.length) (x:Int):(aqJ rs k x).length=rs.length:=by
 unfold aqJ
 rw [List.length_append,take_len h]
 simp
 omega
theorem aqJ_set {rs:List Rl} {k:Nat} (h:k<rs.length) (x y:Int):(aqJ rs k x).set k y=aqJ rs k y:=by
 unfold aqJ
 rw [List.set_append_right k y (by rw [take_len h];exact Nat.le_refl _),take_len h]
 simp
theorem aqJ_at {rs:List Rl} {k:Nat} (h:k<rs.length) (x:Int):(aqJ rs k x)[k]? = some x:=by
 unfold aqJ
 rw [List.getElem?_append_right (by rw [take_len h];exact Nat.le_refl _),take_len h]
 simp
theorem stK_set {rs:List Rl} {k:Nat} (h:k<rs.length) (x:Int):(stK rs k).aq.set k x=aqJ rs k x:=by
 unfold stK aqJ
 simp only
 rw [show rs.length - k=(rs.length - (k+1))+1 by omega,List.replicate_succ,List.set_append_right k x (by rw [take_len h];exact Nat.le_refl _),take_len h]
 simp
theorem stK_len {rs:List Rl} {k:Nat} (h:k≤rs.length):(stK rs k).aq.length=rs.length:=by
 unfold stK
 simp
 omega
theorem stJ_end {rs:List Rl} {k:Nat} (h:k<rs.length):stJ rs k (backP rs[k]).length rs[k]=stK rs (k+1):=by
 unfold stJ stK aqJ
 have h1:(rs.take (k+1)).map askI=(rs.take k).map askI++[askI rs[k]]:=by
  rw [List.take_add_one,List.map_append,List.getElem?_eq_getElem h]
  rfl
 rw [h1,List.take_of_length_le (Nat.le_refl _)]
 congr 1
 · simp [askI]
 · rw [bkI,List.getElem?_eq_getElem h]
   rfl
theorem stJ_start {rs:List Rl} {k:Nat} (r:Rl):stJ rs k 0 r=⟨List.replicate k 1++[1],aqJ rs k (2 - (r.key.length:Int)),(stK rs k).bk⟩:=by
 unfold stJ stK
 simp [pbs,List.replicate_succ']
theorem stJ_bk {rs:List Rl} {k j:Nat} {r:Rl} (hj:j<(backP r).length):(stJ rs k (j+1) r).bk=(stJ rs k j r).bk++(if (backP r)[j].k=2 then [] else [⟨k,mayB (backP r)[j],1⟩]):=by
 unfold stJ
 simp only
 rw [List.take_add_one,List.getElem?_eq_getElem hj,List.append_assoc]
 congr 1
 exact pbs_snoc _ _ _
theorem info121:(Tryz.prog.info? 196).map (fun i=>(i.zero,i.size,i.bytes))=some (some (.agg #[.int .i64 0,.slice none 0 0,.int .i64 0]),3,40):=by kernel_rfl
theorem Sc.sp_grown {W W1 w0:World} {sp m1 ga m2 N1 N2:Nat} {bv:Value} {uvs:List Value} {rv:Value} {rs:List Rl} {st:St} {ln:Int→Option Value} (h:Sc W w0 sp m1 ga m2 N1 N2 bv uvs rv rs st ln) (ho:BKo W w0.heap.size bv st.bk uvs) (hgr:W.grownBy W1 bv.ownBlock):W1.heap[sp]? = some (.cells #[rv,.map (some m1),.slice (some ⟨ga,0,none⟩) st.aq.length st.aq.length,bv,.map (some m2)] 193 (0,0)):=by
 refine (hgr.block sp (Array.getElem?_eq_some_iff.1 h.blk).1 (fun e => ?_)).trans h.blk
 obtain ⟨_,cs,hc⟩:=ho.row e.symm
 rw [h.blk] at hc
 simp at hc
def NsQ (w:World) (rv:Value) (rs:List Rl) (e:Ending) (w':World):Prop:=∃ sp m1 ga m2 bv uvs,e = .returned (.pointer (some ⟨sp,0,none⟩))∧Sc w' w sp m1 ga m2 rs.length 0 bv uvs rv rs (stK rs rs.length) (fun _=>none)
set_option maxHeartbeats 16000000 in
theorem newScale_any (rv:Value) (rs:List Rl) (w:World) (h:PsR w rv rs) (hO:∀ r∈rs,Ok r) (hn:rs.length≤256) :
 Calls Tryz.prog 132 #[rv] w (NsQ w rv rs):=by
 have HP:Hid (PsR w rv rs):=h
 have HO:Hid (∀ r∈rs,Ok r):=hO
 obtain ⟨ra,rc,rfl,_,_⟩:=h
 obtain ⟨n,hnn⟩:∃ n,rs.length=n:=⟨_,rfl⟩
 have HN:Hid (rs.length=n):=hnn
 rw [hnn] at hn HP ⊢
 have hnI:(n:Int)≤256:=by omega
 have hmk:=make_zero n (by omega)
 have hmm := @run_makeMap Tryz.prog
 clear hnn hO
 go_enter Tryz.func132,Tryz.ntmps132
 obtain ⟨W1,hW1⟩:∃ W1,W1=((((w.alloc (.map #[] 0)).alloc (.cells (ints (List.replicate n 0)).toArray 3)).alloc (.map #[] 0)).alloc (.cells #[.slice ra n rc,.map (some w.heap.size),.slice (some ⟨w.heap.size+1,0,none⟩) n n,.slice none 0 0,.map (some (w.heap.size+1+1))] 193)):=⟨_,rfl⟩
 have H0:Hid (∃ bv uvs,Sc W1 w (w.heap.size+1+1+1) w.heap.size (w.heap.size+1) (w.heap.size+1+1) 0 0 bv uvs (.slice ra n rc) rs (stK rs 0) (fun _=>none)∧BKo W1 w.heap.size bv (stK rs 0).bk uvs):=by
  have g1:Grown (w.alloc (.map #[] 0)) W1:=by rw [hW1];exact (((Grown.refl _).alloc _).alloc _).alloc _
  have b1:W1.heap[w.heap.size+1]? = some (.cells (ints (List.replicate n 0)).toArray 3 (0,0)):=by
   have g:Grown ((w.alloc (.map #[] 0)).alloc (.cells (ints (List.replicate n 0)).toArray 3)) W1:=by rw [hW1];exact ((Grown.refl _).alloc _).alloc _
   have e:=heap_alloc_new (w.alloc (.map #[] 0)) (.cells (ints (List.replicate n 0)).toArray 3)
   have e2:=g.below.block (w.heap.size+1) (by simp)
   rw [e2]
   simpa using e
  have b3:W1.heap[w.heap.size+1+1+1]? = some (.cells #[.slice ra n rc,.map (some w.heap.size),.slice (some ⟨w.heap.size+1,0,none⟩) n n,.slice none 0 0,.map (some (w.heap.size+1+1))] 193 (0,0)):=by
   rw [hW1]
   have e:=heap_alloc_new (((w.alloc (.map #[] 0)).alloc (.cells (ints (List.replicate n 0)).toArray 3)).alloc (.map #[] 0)) (.cells #[.slice ra n rc,.map (some w.heap.size),.slice (some ⟨w.heap.size+1,0,none⟩) n n,.slice none 0 0,.map (some (w.heap.size+1+1))] 193)
   simpa using e
  have i1:IMap W1 w.heap.size 0 (fun _=>none):=(IMap.made w).kept (fun o ho=>(g1.below.block _ (Array.getElem?_eq_some_iff.1 ho).1).trans ho)
  have i2:IMap W1 (w.heap.size+1+1) 0 (fun _=>none):=by
   have g:Grown (((w.alloc (.map #[] 0)).alloc (.cells (ints (List.replicate n 0)).toArray 3)).alloc (.map #[] 0)) W1:=by rw [hW1];exact (Grown.refl _).alloc _
   have:=(IMap.made ((w.alloc (.map #[] 0)).alloc (.cells (ints (List.replicate n 0)).toArray 3))).kept (W':=W1) (fun o ho=>(g.below.block _ (Array.getElem?_eq_some_iff.1 ho).1).trans ho)
   simpa using this
  have hB:BKo W1 w.heap.size (.slice none 0 0) (stK rs 0).bk []:=⟨rfl,World.ownsRow_nil _ _ _ _⟩
  have hl:=HN.out
  refine ⟨.slice none 0 0,[],⟨?_,?_,HP.out,by omega,by omega,by omega,by omega,by omega,?_,?_,hB.bk,fun j hj=>by simp [stK,bkI] at hj,i2,fun k v e=>by cases e⟩,hB⟩
  · rw [b3,stK_len (Nat.zero_le _),hl]
  · rw [hW1];exact (((((Grown.refl _).alloc _).alloc _).alloc _).alloc _).below
  · have:wsF (stK rs 0).ws=fun _=>none:=by funext k;simp [wsF,stK]
    rw [this];exact i1
  · rw [b1];simp [stK,hl]
 go_wp2
 rw [show (((w.alloc (.map #[] 0)).alloc (.cells (ints (List.replicate n 0)).toArray 3)).alloc (.map #[] 0)).alloc (.cells #[.slice ra n rc,.map (some w.heap.size),.slice (some ⟨w.heap.size+1,0,none⟩) n n,.slice none 0 0,.map (some (w.heap.size+1+1))] 193)=W1 from hW1.symm]
 clear hW1 hmk hmm
 generalize w.heap.size+1+1+1=sp at H0 ⊢
 generalize w.heap.size+1+1=m2 at H0 ⊢
 generalize w.heap.size+1=ga at H0 ⊢
 go_loopw [18] (fun vi wr=>∃ k:Nat,vi = .int .i64 k∧k≤n∧Hid (∃ bv uvs,Sc wr w sp w.heap.size ga m2 k 0 bv uvs (.slice ra n rc) rs (stK rs k) (fun _=>none)∧BKo wr w.heap.size bv (stK rs k).bk uvs)) (fun vi _=>n - (intOf vi).toNat)
 case atStart=>exact ⟨0,rfl,by omega,H0⟩
 case round=>
  obtain ⟨k,rfl,hk,HSk⟩:=hrel
  clear H0
  have hk0:(0:Int)≤(k:Int):=by omega
  by_cases hlt:k<n
  · have hlt':(k:Int)<(n:Int):=by omega
    have hkI:(k:Int)≤256:=by omega
    have hkl:k<rs.length:=by rw [HN.out];exact hlt
    obtain ⟨bv,uvs,hS,hB⟩:=HSk.out
    clear HSk
    obtain ⟨a',c',e',_,hPr⟩:=HP.out
    obtain ⟨g,o,ha',hRA⟩:=hPr.resolve_left (fun e=>by rw [e] at hkl;simp at hkl)
    injection e' with e1 e2 e3
    clear e2 e3
    rw [ha'] at e1
    subst e1
    have hRn:=hRA k hkl
    have hOk:=HO.out _ (List.getElem_mem hkl)
    obtain ⟨r,hr⟩:∃ r,rs[k]=r:=⟨_,rfl⟩
    rw [hr] at hRn hOk
    have hRw:=hRn.below hS.bel (Nat.le_refl _)
    obtain ⟨av,kv,pv,rv',r0,r1,r2,r3,r4,r5,r6,hRR⟩:=hRw
    obtain ⟨av2,kv2,pv2,rv2,s0,s1,s2,s3,s4,s5,s6,hRR0⟩:=hRn
    have t1:=cell_below s1 hS.bel (Nat.le_refl _)
    have t2:=cell_below s2 hS.bel (Nat.le_refl _)
    have t3:=cell_below s3 hS.bel (Nat.le_refl _)
    have t5:=cell_below s5 hS.bel (Nat.le_refl _)
    rw [t1] at r1;cases r1
    rw [t2] at r2;cases r2
    rw [t3] at r3;cases r3
    rw [t5] at r5;cases r5
    have HPB:Hid (∀ wx,Calls Tryz.prog 163 #[.agg #[.bool r.bg,av,kv,pv,.bool r.en,rv',.int .i64 r.cu]] wx fun e w'=>∃ v,e = .returned v∧PR w v (backP r)∧Grown wx w'):=fun wx=>putBack_any r av kv pv rv' wx w hRR0 hOk.c0 hOk.c1
    have hkl8:(r.key.length:Int)≤8:=by have:=hOk.k8;omega
    have HKL:Hid (1≤r.key.length∧r.key.length≤8∧(backP r).length≤16):=⟨hOk.k0,hOk.k8,by have:=hOk.r16;simp [backP];omega⟩
    obtain ⟨a1,n1,c1,rfl⟩:=hRR0.a.sl
    obtain ⟨ka,kc,hkv,_,_⟩:=hRR0.k
    subst hkv
    obtain ⟨a3,n3,c3,rfl⟩:=hRR0.p.sl
    obtain ⟨a5,n5,c5,rfl⟩:=hRR0.r.sl
    obtain ⟨kl,hkl'⟩:∃ kl,r.key.length=kl:=⟨_,rfl⟩
    rw [hkl'] at t2 HPB hkl8 HKL
    have hkl0:(0:Int)≤(kl:Int):=by omega
    obtain ⟨xb,hxb⟩:∃ xb,r.bg=xb:=⟨_,rfl⟩
    obtain ⟨xe,hxe⟩:∃ xe,r.en=xe:=⟨_,rfl⟩
    obtain ⟨xc,hxc⟩:∃ xc,r.cu=xc:=⟨_,rfl⟩
    rw [hxb] at r0 HPB
    rw [hxe] at r4 HPB
    rw [hxc] at r6 HPB
    obtain ⟨W5,hW5⟩:∃ W5,W5=wr.alloc (.cells #[.bool xb,.slice a1 n1 c1,.slice ka kl kc,.slice a3 n3 c3,.bool xe,.slice a5 n5 c5,.int .i64 xc] 60):=⟨_,rfl⟩
    have hG5:Grown wr W5:=by rw [hW5];exact (Grown.refl _).alloc _
    have b5:W5.heap[wr.heap.size]? = some (.cells #[.bool xb,.slice a1 n1 c1,.slice ka kl kc,.slice a3 n3 c3,.bool xe,.slice a5 n5 c5,.int .i64 xc] 60 (0,0)):=by rw [hW5];exact heap_alloc_new _ _
    have hS5:=hS.grown hG5
    have hB5:=hB.below hG5.below
    obtain ⟨W6,hrun,hI,ht⟩:=hS5.wm.store (by omega) Tryz.underlying117 (k:=(k:Int)) ⟨by omega,by omega⟩ (.int .i64 1)
    obtain ⟨es6,c6,ho6⟩:=hS5.wm.isMap
    have hwl:(stK rs k).ws.length=k:=by simp [stK]
    have hI2:IMap W6 w.heap.size (k+1) (wsF ((stK rs k).ws++[1])):=by rw [←wsF_snoc,hwl];exact hI
    have hS6:=hS5.turn1 ht hI2
    have hB6:BKo W6 w.heap.size bv (stK rs k).bk uvs:=hB5.turn ho6 (by simp) (fun b hb=>turned_other ht hb)
    have b6:W6.heap[wr.heap.size]? = some (.cells #[.bool xb,.slice a1 n1 c1,.slice ka kl kc,.slice a3 n3 c3,.bool xe,.slice a5 n5 c5,.int .i64 xc] 60 (0,0)):=(turned_other ht (ne_obj b5 ho6 (by simp))).trans b5
    have q1:∀ o,(wr.alloc o).cell? ⟨sp,1,none⟩=some (.map (some w.heap.size)):=fun o=>cell_up (by rw [cell_of hS.blk];simp) o
    have hal:(stK rs k).aq.length=n:=by rw [stK_len (by omega)];exact HN.out
    have q2:W6.cell? ⟨sp,2,none⟩=some (.slice (some ⟨ga,0,none⟩) n n):=by rw [cell_of hS6.blk];simp [hal]
    have hga6:=hS6.asb
    have hkq:k<(stK rs k).aq.length:=by omega
    have qa:∃ u,W6.cell? ⟨ga,k,none⟩=some u:=by rw [cell_of hga6];exact ⟨.int .i64 (at0 (stK rs k).aq k),by simp [ints,at0,hkq]⟩
    obtain ⟨u6,qa⟩:=qa
    have qf:W6.frozen? ⟨ga,k,none⟩=false:=free_of hga6
    have q5:W6.cell? ⟨wr.heap.size,2,none⟩=some (.slice ka kl kc):=by rw [cell_of b6];simp
    -- behind the store
    have hS7:=hS6.turn2 k (2 - (kl:Int))
    rw [show (St.mk ((stK rs k).ws++[1]) (stK rs k).aq (stK rs k).bk).aq=(stK rs k).aq from rfl,stK_set hkl] at hS7
    have hB7:=hB6.turn hga6 (by simp) (turns_set W6 ga k (.int .i64 (2 - (kl:Int))))
    have b7:(W6.setCell ⟨ga,k,none⟩ (.int .i64 (2 - (kl:Int)))).heap[wr.heap.size]? = some (.cells #[.bool xb,.slice a1 n1 c1,.slice ka kl kc,.slice a3 n3 c3,.bool xe,.slice a5 n5 c5,.int .i64 xc] 60 (0,0)):=(turns_set _ _ _ _ _ (ne_obj b6 hga6 (by simp))).trans b6
    have HJ0:Hid (∃ bv uvs,Sc (W6.setCell ⟨ga,k,none⟩ (.int .i64 (2 - (kl:Int)))) w sp w.heap.size ga m2 (k+1) 0 bv uvs (.slice (some ⟨g,o,none⟩) n rc) rs (stJ rs k 0 r) (fun _=>none)∧BKo (W6.setCell ⟨ga,k,none⟩ (.int .i64 (2 - (kl:Int)))) w.heap.size bv (stJ rs k 0 r).bk uvs):=by
     rw [stJ_start,hkl']
     exact ⟨bv,uvs,hS7,hB7⟩
    have HR:Hid (rs[k]=r∧r.key.length=kl∧k<rs.length):=⟨hr,hkl',hkl⟩
    rw [hW5] at hrun
    clear hS hB hPr ha' hRA hOk hr hRR hRR0 hS5 hB5 hI hI2 hS6 hB6 ht ho6 hwl hal hga6 hkq hS7 hB7 hxb hxe hxc hkl' s0 s1 s2 s3 s4 s5 s6
    obtain ⟨W7,hW7⟩:∃ W7,W7=W6.setCell ⟨ga,k,none⟩ (.int .i64 (2 - (kl:Int))):=⟨_,rfl⟩
    rw [←hW7] at HJ0 b7
    have hnum:(1:Int) - ((kl:Int) - 1)=2 - (kl:Int):=by omega
    have p0:W7.cell? ⟨wr.heap.size,0,none⟩=some (.bool xb):=by rw [cell_of b7];simp
    have p1:W7.cell? ⟨wr.heap.size,1,none⟩=some (.slice a1 n1 c1):=by rw [cell_of b7];simp
    have p2:W7.cell? ⟨wr.heap.size,2,none⟩=some (.slice ka kl kc):=by rw [cell_of b7];simp
    have p3:W7.cell? ⟨wr.heap.size,3,none⟩=some (.slice a3 n3 c3):=by rw [cell_of b7];simp
    have p4:W7.cell? ⟨wr.heap.size,4,none⟩=some (.bool xe):=by rw [cell_of b7];simp
    have p5:W7.cell? ⟨wr.heap.size,5,none⟩=some (.slice a5 n5 c5):=by rw [cell_of b7];simp
    have p6:W7.cell? ⟨wr.heap.size,6,none⟩=some (.int .i64 xc):=by rw [cell_of b7];simp
    clear b5 b6 b7 hW5 hG5
    go_wp2
    go_region
    rw [←hW7]
    clear hW7 q1 q2 qa qf q5 hrun hnum
    go_wp2_with fail
    refine (HPB.out _).mono ?_
    rintro e w8 ⟨v,rfl,hPR,hG8⟩
    have HPR:Hid (PR w v (backP r)):=hPR
    have HJ1:Hid (∃ bv uvs,Sc w8 w sp w.heap.size ga m2 (k+1) 0 bv uvs (.slice (some ⟨g,o,none⟩) n rc) rs (stJ rs k 0 r) (fun _=>none)∧BKo w8 w.heap.size bv (stJ rs k 0 r).bk uvs):=by
     obtain ⟨bv,uvs,h1,h2⟩:=HJ0.out
     have hg:Grown W7 w8:=(Grown.refl W7).drew.trans hG8
     exact ⟨bv,uvs,h1.grown hg,h2.below hg.below⟩
    obtain ⟨pa,pc,rfl,_,_⟩:=hPR
    obtain ⟨nb,hnb⟩:∃ nb,(backP r).length=nb:=⟨_,rfl⟩
    have HNB:Hid ((backP r).length=nb):=hnb
    rw [hnb] at HPR HKL ⊢
    have hnbI:(nb:Int)≤16:=by have:=HKL.out;omega
    clear hnb HJ0 hG8 HPB p0 p1 p2 p3 p4 p5 p6 r0 r4 r6 t1 t2 t3 t5 HP
    go_wp2
    go_loopw [42] (fun vj wx=>∃ j:Nat,vj = .int .i64 j∧j≤nb∧Hid (∃ bv uvs,Sc wx w sp w.heap.size ga m2 (k+1) 0 bv uvs (.slice (some ⟨g,o,none⟩) n rc) rs (stJ rs k j r) (fun _=>none)∧BKo wx w.heap.size bv (stJ rs k j r).bk uvs)) (fun vj _=>nb - (intOf vj).toNat)
    case atStart=>exact ⟨0,rfl,by omega,HJ1⟩
    case round=>
     obtain ⟨j,rfl,hj,HSj⟩:=hrel
     clear HJ1
     have hj0:(0:Int)≤(j:Int):=by omega
     by_cases hjl:j<nb
     · have hjl':(j:Int)<(nb:Int):=by omega
       have hjb:j<(backP r).length:=by rw [HNB.out];exact hjl
       obtain ⟨bv2,uvs2,hS,hB⟩:=HSj.out
       clear HSj
       obtain ⟨a',c',e',_,hPr⟩:=HPR.out
       obtain ⟨pg,po,ha',hPd⟩:=hPr.resolve_left (fun e=>by rw [e] at hjb;simp at hjb)
       injection e' with e1 e2 e3
       clear e2 e3
       rw [ha'] at e1
       subst e1
       have hPA:=hPd j hjb
       have hbk1:=stJ_bk (rs:=rs) (k:=k) hjb
       obtain ⟨p,hp⟩:∃ p,(backP r)[j]=p:=⟨_,rfl⟩
       rw [hp] at hPA hbk1
       obtain ⟨tv,x0,x1,x2,x3,hRs⟩:=hPA
       have y0:=cell_below x0 hS.bel (Nat.le_refl _)
       have y1:=cell_below x1 hS.bel (Nat.le_refl _)
       have y2:=cell_below x2 hS.bel (Nat.le_refl _)
       have y3:=cell_below x3 hS.bel (Nat.le_refl _)
       have HUR:Hid (∀ W',Below w.heap.size w W'→UR W' w.heap.size tv p.tl):=fun W' hb=>hRs.ur hb
       obtain ⟨ta,tn,tc,rfl⟩:=hRs.sl
       have HPK:Hid ((backP r)[j]=p):=hp
       have hkrs:=HR.out.2.2
       have hql:(stJ rs k j r).aq.length=n:=by show (aqJ rs k _).length=n;rw [aqJ_len hkrs];exact HN.out
       have z2:∀ o,(wr.alloc o).cell? ⟨sp,2,none⟩=some (.slice (some ⟨ga,0,none⟩) n n):=fun o=>cell_up (by rw [cell_of hS.blk];simp [hql]) o
       have za:∀ o,(wr.alloc o).cell? ⟨ga,k,none⟩=some (.int .i64 (2 - (kl:Int)+(j:Int))):=fun o=>cell_up (by rw [cell_of hS.asb];show (ints (aqJ rs k _)).toArray[k]? = _;simp [ints,aqJ_at hkrs,HR.out.2.1]) o
       have zf:∀ ob,(wr.alloc ob).frozen? ⟨ga,k,none⟩=false:=fun ob=>free_of (B:=ga) (((Grown.refl wr).alloc ob).below.block ga (Array.getElem?_eq_some_iff.1 hS.asb).1 |>.trans hS.asb)
       obtain ⟨pk,hpk⟩:∃ pk,p.k=pk:=⟨_,rfl⟩
       obtain ⟨pu,hpu⟩:∃ pu,p.u=pu:=⟨_,rfl⟩
       obtain ⟨py,hpy⟩:∃ py,p.y=py:=⟨_,rfl⟩
       rw [hpk] at y0
       rw [hpu] at y1
       rw [hpy] at y2
       have HMB:Hid (∀ wx,UR wx w.heap.size (.slice ta tn tc) p.tl→Calls Tryz.prog 164 #[.agg #[.int .i64 pk,.int .i64 pu,.int .i64 py,.slice ta tn tc]] wx fun e w'=>∃ v,e = .returned v∧UR w' w.heap.size v (mayB p)∧Grown wx w'):=fun wx hx=>by
        have:=mayBe_any p (.slice ta tn tc) wx w.heap.size hx
        rw [hpk,hpu,hpy] at this
        exact this
       have HBK1:Hid ((stJ rs k (j+1) r).bk=(stJ rs k j r).bk++(if pk=2 then [] else [⟨k,mayB p,1⟩])):=by show _=_;rw [hbk1,hpk]
       have hjI:(j:Int)≤16:=by omega
       have hklI:(0:Int)≤(kl:Int)∧(kl:Int)≤8:=⟨hkl0,hkl8⟩
       have HS:Hid (Sc wr w sp w.heap.size ga m2 (k+1) 0 bv2 uvs2 (.slice (some ⟨g,o,none⟩) n rc) rs (stJ rs k j r) (fun _=>none)):=hS
       have HB:Hid (BKo wr w.heap.size bv2 (stJ rs k j r).bk uvs2):=hB
       clear hS hB hPr ha' hPd hRs hbk1 hp hpk hpu hpy hql x0 x1 x2 x3
       obtain ⟨V2,hV2⟩:∃ V2,V2=(wr.alloc (.cells #[.int .i64 pk,.int .i64 pu,.int .i64 py,.slice ta tn tc] 64)).setCell ⟨ga,k,none⟩ (.int .i64 (2 - (kl:Int)+(j:Int)+1)):=⟨_,rfl⟩
       have hVS:Sc V2 w sp w.heap.size ga m2 (k+1) 0 bv2 uvs2 (.slice (some ⟨g,o,none⟩) n rc) rs ⟨(stJ rs k j r).ws,(stJ rs k (j+1) r).aq,(stJ rs k j r).bk⟩ (fun _=>none):=by
        have h1:=(HS.out.grown ((Grown.refl _).alloc (.cells #[.int .i64 pk,.int .i64 pu,.int .i64 py,.slice ta tn tc] 64))).turn2 k (2 - (kl:Int)+(j:Int)+1)
        rw [hV2]
        have e1:(stJ rs k j r).aq.set k (2 - (kl:Int)+(j:Int)+1)=(stJ rs k (j+1) r).aq:=by
         show (aqJ rs k _).set k _=aqJ rs k _
         rw [aqJ_set hkrs,HR.out.2.1]
         congr 1
         omega
        rw [e1] at h1
        exact h1
       have hasb1:=(HS.out.grown ((Grown.refl _).alloc (.cells #[.int .i64 pk,.int .i64 pu,.int .i64 py,.slice ta tn tc] 64))).asb
       have hVB:BKo V2 w.heap.size bv2 (stJ rs k j r).bk uvs2:=by
        rw [hV2]
        exact (HB.out.below ((Grown.refl _).alloc _).below).turn hasb1 (by simp) (turns_set _ _ _ _)
       have bp1:(wr.alloc (.cells #[.int .i64 pk,.int .i64 pu,.int .i64 py,.slice ta tn tc] 64)).heap[wr.heap.size]? = some (.cells #[.int .i64 pk,.int .i64 pu,.int .i64 py,.slice ta tn tc] 64 (0,0)):=heap_alloc_new _ _
       have bp:V2.heap[wr.heap.size]? = some (.cells #[.int .i64 pk,.int .i64 pu,.int .i64 py,.slice ta tn tc] 64 (0,0)):=by
        rw [hV2]
        exact (turns_set _ _ _ _ _ (ne_obj bp1 hasb1 (by simp))).trans bp1
       have HVS:Hid (Sc V2 w sp w.heap.size ga m2 (k+1) 0 bv2 uvs2 (.slice (some ⟨g,o,none⟩) n rc) rs ⟨(stJ rs k j r).ws,(stJ rs k (j+1) r).aq,(stJ rs k j r).bk⟩ (fun _=>none)):=hVS
       have HVB:Hid (BKo V2 w.heap.size bv2 (stJ rs k j r).bk uvs2):=hVB
       have c0:V2.cell? ⟨wr.heap.size,0,none⟩=some (.int .i64 pk):=by rw [cell_of bp];simp
       have c0':=c0
       rw [hV2] at c0'
       clear hVS hVB hasb1 bp1 HS HB
       by_cases h2:pk=2
       · as_aux_lemma=>
          subst h2
          have HF:Hid (∃ bv uvs,Sc V2 w sp w.heap.size ga m2 (k+1) 0 bv uvs (.slice (some ⟨g,o,none⟩) n rc) rs (stJ rs k (j+1) r) (fun _=>none)∧BKo V2 w.heap.size bv (stJ rs k (j+1) r).bk uvs):=by
           have e:=HBK1.out
           simp only [if_true,List.append_nil] at e
           refine ⟨bv2,uvs2,?_,by rw [e];exact HVB.out⟩
           have:=HVS.out
           rw [←e] at this
           exact this
          clear HVS HVB bp HBK1 HMB HUR
          rw [hV2] at HF
          clear c0 hV2
          go_wp2
          exact ⟨⟨j+1,by go_num,by omega,HF⟩,by simp [intOf];omega⟩
       · have h2':(pk != 2)=true:=by simpa using h2
         have d3:V2.drew.cell? ⟨sp,3,none⟩=some bv2:=by rw [cell_drew_own,cell_of HVS.out.blk];simp
         have c1:V2.cell? ⟨wr.heap.size,1,none⟩=some (.int .i64 pu):=by rw [cell_of bp];simp
         have c2:V2.cell? ⟨wr.heap.size,2,none⟩=some (.int .i64 py):=by rw [cell_of bp];simp
         have c3:V2.cell? ⟨wr.heap.size,3,none⟩=some (.slice ta tn tc):=by rw [cell_of bp];simp
         obtain ⟨L,hL⟩:∃ L,(stJ rs k j r).bk.length=L:=⟨_,rfl⟩
         have HLB:Hid (L≤5000):=by
          show L≤5000
          have h1:=bkI_len (rs:=rs) (fun r hr=>(HO.out r hr).r16) k
          have h2:=pbs_len k ((backP r).take j)
          rw [←hL]
          show (bkI rs k++pbs k _).length≤_
          simp at h2 ⊢
          omega
         have HUV:Hid (UR V2.drew w.heap.size (.slice ta tn tc) p.tl):=HUR.out _ (HVS.out.bel.drew)
         have HON:Hid (∀ (w9:World) (ob:Obj),Grown V2.drew w9→(w9.alloc ob).ownsRow w.heap.size 196 3 bv2 L (fbk (stJ rs k j r).bk uvs2)∧w.heap.size≤(w9.alloc ob).heap.size):=fun w9 ob h9=>by
          have hg:Grown V2 (w9.alloc ob):=((Grown.refl V2).drew.trans h9).alloc ob
          refine ⟨?_,Nat.le_trans HVS.out.bel.size hg.size⟩
          have:=(HVB.out.below hg.below).2
          rw [hL] at this
          exact this
         have HFIN:Hid (∀ (w9 w10:World) (va:Option Addr) (vn vc g10 cap:Nat),Grown V2.drew w9→UR w9 w.heap.size (.slice va vn vc) (mayB p)→w10.ownsRow w.heap.size 196 3 (.slice (some ⟨g10,0,none⟩) (L+1) cap) (L+1) (fbk (stJ rs k j r).bk uvs2++fb1 ⟨k,mayB p,1⟩ (.slice va vn vc))→(w9.alloc (.cells #[.int .i64 k,.slice va vn vc,.int .i64 1] 196)).grownBy w10 bv2.ownBlock→(w10.cell? ⟨sp,3,none⟩=some bv2∧w10.frozen? ⟨sp,3,none⟩=false)∧∃ bv uvs,Sc (w10.setCell ⟨sp,3,none⟩ (.slice (some ⟨g10,0,none⟩) (L+1) cap)) w sp w.heap.size ga m2 (k+1) 0 bv uvs (.slice (some ⟨g,o,none⟩) n rc) rs (stJ rs k (j+1) r) (fun _=>none)∧BKo (w10.setCell ⟨sp,3,none⟩ (.slice (some ⟨g10,0,none⟩) (L+1) cap)) w.heap.size bv (stJ rs k (j+1) r).bk uvs):=fun w9 w10 va vn vc g10 cap h9 hv hown hgr=>by
          have hg:Grown V2 (w9.alloc (.cells #[.int .i64 k,.slice va vn vc,.int .i64 1] 196)):=((Grown.refl V2).drew.trans h9).alloc _
          have hS9:=HVS.out.grown hg
          have hB9:=HVB.out.below hg.below
          have hsp:=hS9.sp_grown hB9 hgr
          refine ⟨⟨by rw [cell_of hsp];simp,free_of hsp⟩,?_⟩
          have ht5:=hS9.turn5 (b:=⟨k,mayB p,1⟩) (uv := .slice va vn vc) hB9 hL hown hgr (hv.below ((Grown.refl _).alloc _).below)
          have e:=HBK1.out
          rw [if_neg h2] at e
          refine ⟨.slice (some ⟨g10,0,none⟩) (L+1) cap,uvs2++[.slice va vn vc],?_,?_⟩
          · have:=ht5.1
            simp only at this
            rw [←e] at this
            exact this
          · rw [e];exact ht5.2.1
         clear HVS HVB HUR bp hL HBK1
         go_wp2
         rw [←hV2]
         clear hV2 c0'
         obtain ⟨i0,hi,hz0,hz1,hz2⟩:=info_parts info121
         go_region_law (first
          | (go_simp;go_at_call 164;refine (HMB.out _ HUV.out).mono ?_;rintro e w9 ⟨v,rfl,hv,hG9⟩;obtain ⟨va,vn,vc,rfl⟩:=hv.rs.sl;have HV9:Hid (UR w9 w.heap.size (.slice va vn vc) (mayB p)):=hv;have HG9:Hid (Grown V2.drew w9):=hG9;have d39:=hG9.cellv d3;have d39':=fun ob=>cell_up d39 ob;clear hv hG9)
          | (refine step_append_lies _ rfl (.tmp 62) (.tmp 67) 191 rfl w.heap.size 196 i0 (.agg #[.int .i64 0,.slice none 0 0,.int .i64 0]) 3 40 Tryz.underlying191 hi hz0 hz1 hz2 rfl (by decide) bv2 L (fbk (stJ rs k j r).bk uvs2) rfl (HON.out _ _ HG9.out).1 ⟨w9.heap.size,0,none⟩ 1 1 (fb1 ⟨k,mayB p,1⟩ (.slice va vn vc)) rfl rfl (fun j u hj=>by rw [add_zero_at,cell_of (heap_alloc_new _ _)];simpa [fb1] using hj) (fun u hu=>by simp [fb1] at hu;rcases hu with rfl | rfl | rfl <;> rfl) (by omega) (by have:=HLB.out;unfold maxLen;omega) (by have:=HLB.out;omega) (HON.out _ _ HG9.out).2 _ rfl ?_;intro g10 cap w10 hown hgr _ _;obtain ⟨⟨f3,ff⟩,hfin⟩:=HFIN.out w9 w10 va vn vc g10 cap HG9.out HV9.out hown hgr;have HFF:Hid (∃ bv uvs,Sc (w10.setCell ⟨sp,3,none⟩ (.slice (some ⟨g10,0,none⟩) (L+1) cap)) w sp w.heap.size ga m2 (k+1) 0 bv uvs (.slice (some ⟨g,o,none⟩) n rc) rs (stJ rs k (j+1) r) (fun _=>none)∧BKo (w10.setCell ⟨sp,3,none⟩ (.slice (some ⟨g10,0,none⟩) (L+1) cap)) w.heap.size bv (stJ rs k (j+1) r).bk uvs):=hfin;clear hfin hown hgr))
         all_goals (go_wp2;exact ⟨⟨j+1,by go_num,by omega,HFF⟩,by simp [intOf];omega⟩)
     · have hge:¬ (j:Int)<(nb:Int):=by omega
       have HF:Hid (∃ bv uvs,Sc wr w sp w.heap.size ga m2 (k+1) 0 bv uvs (.slice (some ⟨g,o,none⟩) n rc) rs (stK rs (k+1)) (fun _=>none)∧BKo wr w.heap.size bv (stK rs (k+1)).bk uvs):=by
        have:=HSj.out
        have e:stJ rs k j r=stK rs (k+1):=by
         rw [←stJ_end HR.out.2.2,HR.out.1,HNB.out]
         congr 1
         omega
        rw [e] at this
        exact this
       clear HSj
       go_wp2
       exact ⟨⟨k+1,by go_num,by omega,HF⟩,by simp [intOf];omega⟩
  · have hge:¬ (k:Int)<(n:Int):=by omega
    have HF:Hid (NsQ w (.slice ra n rc) rs (.returned (.pointer (some ⟨sp,0,none⟩))) wr):=by
     obtain ⟨bv,uvs,h1,_⟩:=HSk.out
     have e:k=rs.length:=by have:=HN.out;omega
     subst e
     exact ⟨sp,_,ga,m2,bv,uvs,rfl,h1⟩
    clear HSk
    go_wp2
    go_ret
    exact HF.out
theorem look_le (st:St):∀ (k n m:Nat),look st k n=some m→n≤m∧m<n+k
 | 0,n,m,h=>by simp [look] at h
 | k+1,n,m,h=>by
  unfold look at h
  split at h
  · cases h;omega
  · have:=look_le st k (n+1) m h;omega
def SeQ (w0:World) (sp m1 ga m2:Nat) (bv:Value) (uvs:List Value) (rv:Value) (rs:List Rl) (cs:List Int) (us:List (List (Int × Int))) (R1:Bool) (R2:St) (e:Ending) (w':World):Prop:=
 ∃ ln',e = .returned (.bool R1)∧Sc w' w0 sp m1 ga m2 (tws R2.ws) (tws R2.ws) bv uvs rv rs R2 ln'∧OkSt cs us R2
set_option maxHeartbeats 8000000 in
theorem settle_any {W w0:World} {sp m1 ga m2:Nat} {bv:Value} {uvs:List Value} {rv:Value} {rs:List Rl} {st:St} {ln:Int→Option Value} {cs:List Int} {us:List (List (Int × Int))} (last F:Nat) (hS:Sc W w0 sp m1 ga m2 (tws st.ws) (tws st.ws) bv uvs rv rs st ln) (hO:OkSt cs us st) (hcl:cs.length=rs.length) (hn:last<rs.length) (hK:Kok rs) (hu:∀ u∈us,u.length≤512) (hF:64*cs.length<F+tws st.ws) :
 Calls Tryz.prog 133 #[.pointer (some ⟨sp,0,none⟩),.int .i64 last] W (SeQ w0 sp m1 ga m2 bv uvs rv rs cs us (settleP rs last F st).1 (settleP rs last F st).2):=by
 obtain ⟨R,hR⟩:∃ R,settleP rs last F st=R:=⟨_,rfl⟩
 rw [hR]
 obtain ⟨R1,R2⟩:=R
 simp only
 have HK:Hid (Kok rs):=hK
 have HU:Hid (∀ u∈us,u.length≤512):=hu
 have HCL:Hid (cs.length=rs.length∧last<rs.length∧rs.length≤256):=⟨hcl,hn,hK.n⟩
 have hlI:(last:Int)≤256:=by have:=hK.n;omega
 have hl0:(0:Int)≤(last:Int):=by omega
 have H0:Hid (∃ st ln,Sc W w0 sp m1 ga m2 (tws st.ws) (tws st.ws) bv uvs rv rs st ln∧OkSt cs us st∧settleP rs last F st=(R1,R2)∧64*cs.length<F+tws st.ws):=⟨st,ln,hS,hO,hR,hF⟩
 clear hS hO hR hF hu hK hcl hn
 go_enter Tryz.func133,Tryz.ntmps133
 go_wp2
 refine wp_scope_straight ?_
 go_wp2
 refine wp_label ?_
 go_wp2
 go_loopg [] F (fun f wr=>Hid (∃ st ln,Sc wr w0 sp m1 ga m2 (tws st.ws) (tws st.ws) bv uvs rv rs st ln∧OkSt cs us st∧settleP rs last f st=(R1,R2)∧64*cs.length<f+tws st.ws))
 case atStart=>exact H0
 case round=>
  clear H0
  obtain ⟨wo,rfl⟩:∃ wo,wo=wr:=⟨_,rfl⟩
  obtain ⟨s0,l0,hS,hO,hR,hF⟩:=hrel.out
  clear hrel
  obtain ⟨f,rfl⟩:∃ f,gk=f+1:=by
   have h1:=tws_bound s0.ws (fun i hi=>(hO.wb i (by rw [←hO.wl];exact hi)).2)
   rw [hO.wl] at h1
   exact ⟨gk - 1,by omega⟩
  have HS:Hid (Sc wo w0 sp m1 ga m2 (tws s0.ws) (tws s0.ws) bv uvs rv rs s0 l0):=hS
  have HO:Hid (OkSt cs us s0):=hO
  have HF:Hid (64*cs.length<f+1+tws s0.ws):=hF
  have HR:Hid (settleP rs last (f+1) s0=(R1,R2)):=hR
  obtain ⟨na,hna⟩:∃ na,cs.length=na:=⟨_,rfl⟩
  have HNA:Hid (cs.length=na):=hna
  have hlast:(last:Int)<(na:Int):=by have:=HCL.out;omega
  have hnaI:(na:Int)≤256:=by have:=HCL.out;omega
  have d1:wo.cell? ⟨sp,1,none⟩=some (.map (some m1)):=by rw [cell_of hS.blk];simp
  have d2:wo.cell? ⟨sp,2,none⟩=some (.slice (some ⟨ga,0,none⟩) na na):=by rw [cell_of hS.blk];simp [hO.al,hna]
  clear hS hO hR hF hna
  go_wp2
  go_loopw [8] (fun vi wx=>∃ k:Nat,vi = .int .i64 k∧k≤last+1∧Hid (look s0 (last+1) 0=look s0 (last+1 - k) k)∧Grown wo wx) (fun vi _=>last+1 - (intOf vi).toNat)
  case atStart=>exact ⟨0,rfl,by omega,rfl,Grown.refl _⟩
  case round=>
   obtain ⟨k,rfl,hk,HL,hG⟩:=hrel
   have hk0:(0:Int)≤(k:Int):=by omega
   by_cases hlt:k<last+1
   · have hlt':(k:Int)<(last:Int)+1:=by omega
     have hkn:k<cs.length:=by have:=HCL.out;omega
     have hSx:=HS.out.grown hG
     have hab:=HO.out.ab hkn
     have hwb:=HO.out.wb k hkn
     have hka:k<s0.aq.length:=by rw [HO.out.al];exact hkn
     have hkw:k<s0.ws.length:=by rw [HO.out.wl];exact hkn
     have e2:=hG.cellv d2
     have e1:=hG.cellv d1
     have ya:wr.cell? ⟨ga,k,none⟩=some (.int .i64 (at0 s0.aq k)):=by rw [cell_of hSx.asb];simp [ints,at0,hka]
     have hlk:(Instr.lookup 117 (.map (some m1)) (.int .i64 k) false).run Tryz.prog wr.drew = .ok (.int .i64 (at0 s0.ws k)) wr.drew:=by
      have:=(hSx.grown (Grown.refl _).drew).wm.look (t:=117) (e:=3) Tryz.underlying117 (zero3 _) (k:=(k:Int)) ⟨by omega,by omega⟩
      rw [this,wsF_nat hkw]
      rfl
     have hkna:(k:Int)<(na:Int):=by omega
     have HL2:Hid (look s0 (last+1) 0=if 64<at0 s0.aq k∨at0 s0.ws k<at0 s0.aq k then some k else look s0 (last+1 - (k+1)) (k+1)):=by
      show _=_
      rw [HL.out,show last+1 - k=(last+1 - (k+1))+1 by omega,look]
     have HLC:Hid (64 ≥ at0 s0.aq k→at0 s0.ws k<at0 s0.aq k→∀ wz,Grown wo wz→Calls Tryz.prog 165 #[.pointer (some ⟨sp,0,none⟩),.int .i64 k] wz fun e w'=>∃ ln',e = .returned (.tuple #[])∧Sc w' w0 sp m1 ga m2 (tws s0.ws+1) (tws s0.ws+1) bv uvs rv rs (liftP rs k s0) ln'):=fun h1 h2 wz hz=>by
      have hb:=tws_bound s0.ws (fun i hi=>(HO.out.wb i (by rw [←HO.out.wl];exact hi)).2)
      rw [HO.out.wl] at hb
      have hc:=HCL.out
      exact lift_any k (HS.out.grown hz) HO.out hc.1 (by omega) HK.out HU.out (by omega) (by omega) h2 h1
     obtain ⟨aa,haa⟩:∃ aa,at0 s0.aq k=aa:=⟨_,rfl⟩
     obtain ⟨ww,hww⟩:∃ ww,at0 s0.ws k=ww:=⟨_,rfl⟩
     have HAW:Hid (at0 s0.aq k=aa∧at0 s0.ws k=ww):=⟨haa,hww⟩
     rw [haa] at hab ya HL2 HLC
     rw [hww] at hwb hlk HL2 HLC
     clear hSx HL haa hww hka hkw
     by_cases hc1:64<aa
     · as_aux_lemma=>
        have HE:Hid (R1=false∧R2=s0):=by
         have h1:=HL2.out
         rw [if_pos (.inl hc1)] at h1
         have h2:=HR.out
         rw [settleP,h1] at h2
         simp only at h2
         rw [if_pos (by rw [HAW.out.1];exact hc1)] at h2
         injection h2 with h3 h4
         exact ⟨h3.symm,h4.symm⟩
        clear HL2 HLC HR HF
        go_wp2
        go_ret
        refine ⟨l0,by rw [HE.out.1];rfl,?_,?_⟩
        · rw [HE.out.2];exact HS.out.grown hG
        · rw [HE.out.2];exact HO.out
     · by_cases hc2:ww<aa
       · as_aux_lemma=>
          have HE:Hid (settleP rs last f (liftP rs k s0)=(R1,R2)):=by
           have h1:=HL2.out
           rw [if_pos (.inr hc2)] at h1
           have h2:=HR.out
           rw [settleP,h1] at h2
           simp only at h2
           rw [if_neg (by rw [HAW.out.1];exact hc1)] at h2
           exact h2
          have HOL:Hid (OkSt cs us (liftP rs k s0)∧tws s0.ws+1≤tws (liftP rs k s0).ws):=by
           refine ⟨HO.out.lift rs hkn (by rw [HAW.out.1,HAW.out.2];exact hc2) (by rw [HAW.out.1];omega),?_⟩
           rw [liftP_ws]
           have:=tws_set s0.ws k (at0 s0.aq k) (by rw [HO.out.wl];exact hkn)
           rw [HAW.out.1,HAW.out.2] at this
           rw [HAW.out.1]
           omega
          have HCC:Hid (∀ wz,Grown wo wz→Calls Tryz.prog 165 #[.pointer (some ⟨sp,0,none⟩),.int .i64 k] wz fun e w'=>∃ ln',e = .returned (.tuple #[])∧Sc w' w0 sp m1 ga m2 (tws s0.ws+1) (tws s0.ws+1) bv uvs rv rs (liftP rs k s0) ln'):=HLC.out (by omega) hc2
          clear HL2 HLC HR
          go_wp2
          go_region
          go_wp2_with (go_at_call 165;refine (HCC.out _ hG.drew).mono ?_;rintro e w' ⟨ln',rfl,hS'⟩)
          go_roundg f
          case measure=>omega
          case rel=>exact ⟨liftP rs k s0,ln',hS'.mono HOL.out.2 HOL.out.2,HOL.out.1,HE.out,by have h1:=HOL.out.2;have h2:=HF.out;omega⟩
       · as_aux_lemma=>
          have HL3:Hid (look s0 (last+1) 0=look s0 (last+1 - (k+1)) (k+1)):=by
           show _=_
           rw [HL2.out,if_neg (fun h=>h.elim hc1 hc2)]
          clear HL2 HLC HR HF
          go_wp2
          go_region
          go_wp2
          exact ⟨⟨k+1,by go_num,by omega,HL3,hG.drew⟩,by simp [intOf];omega⟩
   · as_aux_lemma=>
      have hge:¬ (k:Int)<(last:Int)+1:=by omega
      have HE:Hid (R1=true∧R2=s0):=by
       have h1:=HL.out
       rw [show last+1 - k=0 by omega,look] at h1
       have h2:=HR.out
       rw [settleP,h1] at h2
       injection h2 with h3 h4
       exact ⟨h3.symm,h4.symm⟩
      clear HL HR HF
      go_wp2
      go_ret
      refine ⟨l0,by rw [HE.out.1];rfl,?_,?_⟩
      · rw [HE.out.2];exact HS.out.grown hG
      · rw [HE.out.2];exact HO.out
theorem wsum_pbs (n i:Nat):∀ l:List Pc,wsum (pbs n l) i=if n=i then ((pbs n l).length:Int) else 0
 | []=>by simp [pbs,wsum]
 | p::l=>by
  have ih:=wsum_pbs n i l
  simp only [pbs]
  split
  · exact ih
  · simp only [wsum,ih,List.length_cons]
    split <;> omega
theorem wsum_bkI (rs:List Rl) (i:Nat):∀ k,wsum (bkI rs k) i=if i<k then ((pbs i ((rs[i]?.map backP).getD [])).length:Int) else 0
 | 0=>by simp [bkI,wsum]
 | k+1=>by
  rw [bkI,wsum_append,wsum_bkI rs i k,wsum_pbs]
  by_cases h1:i<k
  · rw [if_pos h1,if_neg (by omega),if_pos (by omega)];omega
  · rw [if_neg h1]
    by_cases h2:k=i
    · subst h2;rw [if_pos rfl,if_pos (by omega)];omega
    · rw [if_neg h2,if_neg (by omega)];omega
theorem pbs_mem {n:Nat} : ∀ {l:List Pc} {b:Pb},b∈pbs n l→b.r=n∧b.wt=1∧∃ p∈l,b.us=mayB p
 | [],b,h=>by simp [pbs] at h
 | p::l,b,h=>by
  simp only [pbs] at h
  split at h
  · obtain ⟨h1,h2,q,h3,h4⟩:=pbs_mem h
    exact ⟨h1,h2,q,List.mem_cons_of_mem _ h3,h4⟩
  · rcases List.mem_cons.1 h with rfl | h
    · exact ⟨rfl,rfl,p,List.mem_cons_self,rfl⟩
    · obtain ⟨h1,h2,q,h3,h4⟩:=pbs_mem h
      exact ⟨h1,h2,q,List.mem_cons_of_mem _ h3,h4⟩
theorem bkI_mem {rs:List Rl} : ∀ {k:Nat} {b:Pb},b∈bkI rs k→b.r<k∧b.wt=1∧∃ r∈rs,∃ p∈backP r,b.us=mayB p
 | 0,b,h=>by simp [bkI] at h
 | k+1,b,h=>by
  rw [bkI] at h
  rcases List.mem_append.1 h with h | h
  · obtain ⟨h1,h2,h3⟩:=bkI_mem h
    exact ⟨by omega,h2,h3⟩
  · obtain ⟨h1,h2,p,h3,h4⟩:=pbs_mem h
    refine ⟨by omega,h2,?_⟩
    cases hk:rs[k]? with
    | none=>rw [hk] at h3;simp at h3
    | some r=>
     rw [hk] at h3
     exact ⟨r,List.mem_of_getElem? hk,p,by simpa using h3,h4⟩
def csI (rs:List Rl):List Int:=(List.range rs.length).map fun i=>at0 (stK rs rs.length).aq i - wsum (bkI rs rs.length) i
theorem csI_len (rs:List Rl):(csI rs).length=rs.length:=by simp [csI]
theorem csI_at {rs:List Rl} {i:Nat} (h:i<rs.length):at0 (csI rs) i=at0 (stK rs rs.length).aq i - wsum (bkI rs rs.length) i:=by
 rw [at0_lt (by rw [csI_len];exact h)]
 simp [csI]
theorem stK_all (rs:List Rl):stK rs rs.length=⟨List.replicate rs.length 1,rs.map askI,bkI rs rs.length⟩:=by simp [stK]
theorem okSt_start {rs:List Rl} (hO:∀ r∈rs,Ok r) (hn:rs.length≤256):OkSt (csI rs) ((bkI rs rs.length).map Pb.us) (stK rs rs.length):=by
 have hl:=csI_len rs
 refine ⟨by omega,by rw [stK_all];simp [hl],by rw [stK_all];simp [hl],fun i hi => ?_,fun b hb => ?_,?_,fun i hi => ?_,fun i hi => ?_,by rw [stK_all]⟩
 · rw [hl] at hi
   rw [stK_all]
   simp [at0,hi]
 · rw [stK_all] at hb
   obtain ⟨h1,h2,_⟩:=bkI_mem hb
   omega
 · rw [stK_all]
   have:=bkI_len (fun r hr=>(hO r hr).r16) rs.length
   show (bkI rs rs.length).length≤4096
   omega
 · rw [hl] at hi
   rw [csI_at hi,wsum_bkI,if_pos hi,stK_all,List.getElem?_eq_getElem hi]
   have hr:=hO _ (List.getElem_mem hi)
   have h1:=pbs_len i (backP rs[i])
   have h2:(backP rs[i]).length≤16:=by have:=hr.r16;simp [backP];omega
   have h3:=hr.k8
   have h4:at0 (rs.map askI) i=askI rs[i]:=by simp [at0,hi]
   show -100≤at0 (rs.map askI) i - _∧at0 (rs.map askI) i - _≤100
   rw [h4]
   unfold askI
   simp only [Option.map_some,Option.getD_some]
   omega
 · rw [hl] at hi
   rw [csI_at hi,stK_all]
   simp only
   omega
theorem mayB_len {r:Rl} (hO:Ok r) {p:Pc} (hp:p∈backP r):(mayB p).length≤512:=by
 unfold mayB
 split
 · rename_i h3
   rcases pc_ok (hO.pc p (List.mem_of_mem_drop hp)) with ⟨h1,_⟩ | ⟨h1,_⟩ | ⟨_,_,_,_,hm⟩
   · omega
   · omega
   · unfold matB at hm
     simp only [Bool.and_eq_true] at hm
     exact ((validB_iff _).1 hm.1).1
 · simp
theorem us_len {rs:List Rl} (hO:∀ r∈rs,Ok r):∀ u∈(bkI rs rs.length).map Pb.us,u.length≤512:=fun u hu=>by
 obtain ⟨b,hb,rfl⟩:=List.mem_map.1 hu
 obtain ⟨_,_,r,hr,p,hp,e⟩:=bkI_mem hb
 rw [e]
 exact mayB_len (hO r hr) hp
theorem kok_of {rs:List Rl} (hO:∀ r∈rs,Ok r) (hn:rs.length≤256):Kok rs:=by
 refine ⟨fun r hr=>(hO r hr).k0,fun r hr => ?_,hn⟩
 have h0:=(hO r hr).k0
 have:=List.all_eq_true.1 (hO r hr).kS _ (List.getElem_mem h0)
 unfold okS at this
 simp only [Bool.and_eq_true] at this
 have e:keyAt r.key 0=r.key[0]:=by simp [keyAt,h0]
 rw [e]
 exact ((validB_iff _).1 this.1).1
theorem fstR_ok:∀ {rs:List Rl} {k:Nat},(fstR rs k).2=0→∀ r∈rs,chk r=0
 | [],_,_,r,h=>by cases h
 | q::l,k,h,r,hr=>by
  unfold fstR at h
  by_cases hq:chk q=0
  · rw [if_pos hq] at h
    rcases List.mem_cons.1 hr with rfl | hr
    · exact hq
    · exact fstR_ok h r hr
  · rw [if_neg hq] at h
    exact absurd h hq
theorem allE_ok {rs:List Rl} (h:(allE rs).2=0):rs.length≤256∧∀ r∈rs,Ok r:=by
 unfold allE at h
 by_cases hn:256<rs.length
 · rw [if_pos hn] at h;cases h
 · rw [if_neg hn] at h
   exact ⟨by omega,fun r hr=>chk_ok (fstR_ok h r hr)⟩
def fstC:List Rl→Nat→Option Nat
 | [],_=>none
 | r::l,k=>if copB r then some k else fstC l (k+1)
def settleAll (rs:List Rl):Nat→Nat→St→Option Nat × St
 | 0,_,st=>(none,st)
 | k+1,n,st=>if (settleP rs n (64*rs.length+1) st).1 then settleAll rs k (n+1) (settleP rs n (64*rs.length+1) st).2 else (some n,(settleP rs n (64*rs.length+1) st).2)
def wgh (rs:List Rl):Option St × Int × Int:=
 if (allE rs).2≠0 then (none,(allE rs).1,(allE rs).2)
 else match fstC rs 0 with
  | some n=>(none,(n:Int),80)
  | none=>match settleAll rs rs.length 0 (stK rs rs.length) with
   | (some n,_)=>(none,(n:Int),81)
   | (none,st)=>(some st,0,0)
theorem tws_ones (n:Nat):tws (List.replicate n 1)=n:=by
 induction n with
 | zero=>rfl
 | succ n ih=>rw [List.replicate_succ,tws,ih];simp;omega
def Sca (w':World) (B:Nat) (sp:Nat) (rv:Value) (rs:List Rl) (st:St):Prop:=
 ∃ w0 m1 ga m2 N1 N2 bv uvs ln,B≤w0.heap.size∧Sc w' w0 sp m1 ga m2 N1 N2 bv uvs rv rs st ln∧OkSt (csI rs) ((bkI rs rs.length).map Pb.us) st
def WgQ (w:World) (rv:Value) (rs:List Rl) (e:Ending) (w':World):Prop:=
 Below w.heap.size w w'∧((∃ c,(wgh rs)=(none,c)∧e = .returned (.tuple #[.pointer none,.int .i64 c.1,.int .i64 c.2]))∨∃ st sp,wgh rs=(some st,0,0)∧e = .returned (.tuple #[.pointer (some ⟨sp,0,none⟩),.int .i64 0,.int .i64 0])∧Sca w' w.heap.size sp rv rs st)
theorem box_cell {w wr:World} {rv:Value} (hb:Below (w.heap.size+1) (w.alloc (.cells #[rv] 24)) wr):wr.cell? ⟨w.heap.size,0,none⟩=some rv:=by
 rw [hb.cell (p:=⟨w.heap.size,0,none⟩) (by simp),cell_of (heap_alloc_new w _)]
 rfl
theorem box_below {w wr:World} {ob:Obj} (hb:Below (w.heap.size+1) (w.alloc ob) wr):Below w.heap.size w wr:=(((Grown.refl w).alloc ob).below).trans (hb.mono (Nat.le_succ _))
structure WL (w:World) (rv:Value) (rs:List Rl) (sp m1 ga m2:Nat) (bv:Value) (uvs:List Value) (w0:World) (E:Option Nat × St) (k:Nat) (wr:World):Prop where
 h:∃ st ln,settleAll rs (rs.length - k) k st=E∧Sc wr w0 sp m1 ga m2 (tws st.ws) (tws st.ws) bv uvs rv rs st ln∧OkSt (csI rs) ((bkI rs rs.length).map Pb.us) st
 b:Below (w.heap.size+1) (w.alloc (.cells #[rv] 24)) w0
theorem WL.below {w:World} {rv:Value} {rs:List Rl} {sp m1 ga m2:Nat} {bv:Value} {uvs:List Value} {w0:World} {E:Option Nat × St} {k:Nat} {wr:World} (h:WL w rv rs sp m1 ga m2 bv uvs w0 E k wr):Below (w.heap.size+1) (w.alloc (.cells #[rv] 24)) wr:=by
 obtain ⟨st,ln,_,hS,_⟩:=h.h
 refine h.b.trans (hS.bel.mono ?_)
 have:=h.b.size
 simpa using this
set_option maxHeartbeats 8000000 in
theorem weighed_any (rv:Value) (rs:List Rl) (w:World) (hT:Tab w) (h:PsR w rv rs):Calls Tryz.prog 97 #[.agg #[rv]] w (WgQ w rv rs):=by
 have HP:Hid (∀ W,Below w.heap.size w W→PsR W rv rs):=fun W hW=>h.below hW (Nat.le_refl _)
 have HTT:Hid (∀ W,Below w.heap.size w W→Tab W):=fun W hW=>hT.below hW hT.pos
 have HA:Hid (∀ W,Grown w W→Calls Tryz.prog 130 #[.agg #[rv]] W fun e w'=>e = .returned (.tuple #[.int .i64 (allE rs).1,.int .i64 (allE rs).2])∧Grown W w'):=fun W hW=>all_any rv rs W (hT.grown hW) (h.grown hW)
 obtain ⟨ra,rc,rfl,_,hrr⟩:=h
 obtain ⟨n,hn⟩:∃ n,rs.length=n:=⟨_,rfl⟩
 have HN:Hid (rs.length=n):=hn
 rw [hn] at HP HA ⊢
 obtain ⟨e1,he1⟩:∃ e1,(allE rs).1=e1:=⟨_,rfl⟩
 obtain ⟨e2,he2⟩:∃ e2,(allE rs).2=e2:=⟨_,rfl⟩
 have HE:Hid ((allE rs).1=e1∧(allE rs).2=e2):=⟨he1,he2⟩
 rw [he1,he2] at HA
 clear hT hn he1 he2 hrr
 by_cases hq:e2=0
 · subst hq
   have HOK:=allE_ok HE.out.2
   have HO:Hid (∀ r∈rs,Ok r):=HOK.2
   have hn256:n≤256:=by rw [←HN.out];exact HOK.1
   have hnI:(n:Int)≤256:=by omega
   clear HOK
   obtain ⟨C,hC⟩:∃ C,fstC rs 0=C:=⟨_,rfl⟩
   have HC:Hid (fstC rs 0=C):=hC
   clear hC
   go_enter Tryz.func97,Tryz.ntmps97
   go_wp2_with fail
   refine (HA.out _ ((Grown.refl _).alloc _)).mono ?_
   rintro e w1 ⟨rfl,hG1⟩
   have HB1:Hid (Below (w.heap.size+1) (w.alloc (.cells #[.slice ra n rc] 24)) w1):=by have:=hG1.below;simpa [Hid] using this
   have d0:w1.cell? ⟨w.heap.size,0,none⟩=some (.slice ra n rc):=box_cell HB1.out
   clear hG1 HA
   go_wp2
   go_loopw [23] (fun vi wr=>∃ k:Nat,vi = .int .i64 k∧k≤n∧Hid (fstC (rs.drop k) k=C)∧Hid (Below (w.heap.size+1) (w.alloc (.cells #[.slice ra n rc] 24)) wr)) (fun vi _=>n - (intOf vi).toNat)
   case atStart=>exact ⟨0,rfl,by omega,HC,HB1⟩
   case round=>
    obtain ⟨k,rfl,hk,HF,HB⟩:=hrel
    clear HB1 d0
    have hk0:(0:Int)≤(k:Int):=by omega
    by_cases hlt:k<n
    · have hlt':(k:Int)<(n:Int):=by omega
      have hkl:k<rs.length:=by rw [HN.out];exact hlt
      obtain ⟨a',c',e',_,hPr⟩:=HP.out wr (box_below HB.out)
      obtain ⟨g,o,ha',hRA⟩:=hPr.resolve_left (fun e=>by rw [e] at hkl;simp at hkl)
      injection e' with q1 q2 q3
      clear q2 q3
      rw [ha'] at q1
      subst q1
      obtain ⟨av,kv,pv,rv',r0,r1,r2,r3,r4,r5,r6,hRR⟩:=hRA k hkl
      have hOk:=HO.out _ (List.getElem_mem hkl)
      have HCC:Hid (∀ ob,Calls Tryz.prog 131 #[.agg #[.bool rs[k].bg,av,kv,pv,.bool rs[k].en,rv',.int .i64 rs[k].cu]] (wr.alloc ob) fun e w'=>e = .returned (.bool (copB rs[k]))∧Below (w.heap.size+1) (w.alloc (.cells #[.slice (some ⟨g,o,none⟩) n rc] 24)) w'):=fun ob=>by
       have hg:Grown wr (wr.alloc ob):=(Grown.refl _).alloc ob
       refine (copies_any rs[k] av kv pv rv' (wr.alloc ob) (hRR.grown hg) hOk).mono ?_
       rintro e w' ⟨rfl,hb⟩
       refine ⟨rfl,HB.out.trans ((hg.below.trans (hb.mono hg.size)).mono ?_)⟩
       have:=HB.out.size
       simpa using this
      have hF2:=HF.out
      rw [drop_rl hkl] at hF2
      unfold fstC at hF2
      obtain ⟨a1,n1,c1,rfl⟩:=hRR.a.sl
      obtain ⟨a2,n2,c2,rfl⟩:=hRR.k.sl
      obtain ⟨a3,n3,c3,rfl⟩:=hRR.p.sl
      obtain ⟨a5,n5,c5,rfl⟩:=hRR.r.sl
      generalize copB rs[k]=cb at HCC hF2
      generalize rs[k].bg=xb at *
      generalize rs[k].en=xe at *
      generalize rs[k].cu=xc at *
      clear hRR hRA hPr ha' hOk HF HB
      cases cb with
      | true=>
       as_aux_lemma=>
        have HX:Hid (C=some k):=by show C=some k;simpa using hF2.symm
        clear hF2
        go_wp2_with (go_at_call 131;refine (HCC.out _).mono ?_;rintro e w' ⟨rfl,hb⟩)
        refine bodyPost_ret (v := .tuple #[.pointer none,.int .i64 k,.int .i64 80]) (by simp [results,Tryz.f97,go_sem]) rfl ⟨box_below hb,.inl ⟨((k:Int),80),?_,rfl⟩⟩
        unfold wgh
        rw [if_neg (by rw [HE.out.2];simp),HC.out,HX.out]
      | false=>
       as_aux_lemma=>
        have HX:Hid (fstC (rs.drop (k+1)) (k+1)=C):=by show _=C;simpa using hF2
        clear hF2
        go_wp2_with (go_at_call 131;refine (HCC.out _).mono ?_;rintro e w' ⟨rfl,hb⟩)
        exact ⟨⟨k+1,by go_num,by omega,HX,hb⟩,by simp [intOf];omega⟩
    · have hge:¬ (k:Int)<(n:Int):=by omega
      have HX:Hid (C=none):=by
       have:=HF.out
       rw [List.drop_eq_nil_of_le (by rw [HN.out];omega),fstC] at this
       exact this.symm
      have d0:wr.cell? ⟨w.heap.size,0,none⟩=some (.slice ra n rc):=box_cell HB.out
      have HNS:Hid (Calls Tryz.prog 132 #[.slice ra n rc] wr (NsQ wr (.slice ra n rc) rs)):=newScale_any _ rs wr (HP.out wr (box_below HB.out)) HO.out (by rw [HN.out];exact hn256)
      clear HF
      go_wp2_with fail
      refine HNS.out.mono ?_
      rintro e w2 ⟨sp,m1,ga,m2,bv,uvs,rfl,hS2⟩
      have hwl:tws (stK rs rs.length).ws=rs.length:=by rw [stK_all];exact tws_ones _
      obtain ⟨E,hE⟩:∃ E,settleAll rs rs.length 0 (stK rs rs.length)=E:=⟨_,rfl⟩
      have HSE:Hid (settleAll rs rs.length 0 (stK rs rs.length)=E):=hE
      have HW0:Hid (WL w (.slice ra n rc) rs sp m1 ga m2 bv uvs wr E 0 w2):=by
       refine ⟨⟨stK rs rs.length,fun _=>none,by rw [Nat.sub_zero];exact hE,hS2.mono (by rw [hwl];exact Nat.le_refl _) (Nat.zero_le _),okSt_start HO.out (by rw [HN.out];exact hn256)⟩,HB.out⟩
      have d2:w2.cell? ⟨w.heap.size,0,none⟩=some (.slice ra n rc):=box_cell HW0.out.below
      have HK:Hid (Kok rs):=kok_of HO.out (by rw [HN.out];exact hn256)
      have HU:Hid (∀ u∈(bkI rs rs.length).map Pb.us,u.length≤512):=us_len HO.out
      have HBW:Hid (Below (w.heap.size+1) (w.alloc (.cells #[.slice ra n rc] 24)) wr):=HB
      obtain ⟨wn,hwn⟩:∃ wn,wn=wr:=⟨_,rfl⟩
      rw [←hwn] at HW0 HBW
      clear hE hS2 hwl HNS d0 HB hwn
      go_wp2
      go_loopw [38] (fun vi wx=>∃ k:Nat,vi = .int .i64 k∧k≤n∧Hid (WL w (.slice ra n rc) rs sp m1 ga m2 bv uvs wn E k wx)) (fun vi _=>n - (intOf vi).toNat)
      case atStart=>exact ⟨0,rfl,by omega,HW0⟩
      case round=>
       obtain ⟨k,rfl,hk,HW⟩:=hrel
       clear HW0 d2
       have hk0:(0:Int)≤(k:Int):=by omega
       by_cases hlt:k<n
       · have hlt':(k:Int)<(n:Int):=by omega
         have hkl:k<rs.length:=by rw [HN.out];exact hlt
         obtain ⟨st,ln,hA,hS,hO⟩:=HW.out.h
         have HCC:Hid (Calls Tryz.prog 133 #[.pointer (some ⟨sp,0,none⟩),.int .i64 k] wr (SeQ wn sp m1 ga m2 bv uvs (.slice ra n rc) rs (csI rs) ((bkI rs rs.length).map Pb.us) (settleP rs k (64*rs.length+1) st).1 (settleP rs k (64*rs.length+1) st).2)):=
          settle_any k (64*rs.length+1) hS hO (csI_len rs) hkl HK.out HU.out (by rw [csI_len];omega)
         rw [show rs.length - k=(rs.length - (k+1))+1 by omega,settleAll] at hA
         obtain ⟨R1,hR1⟩:∃ R1,(settleP rs k (64*rs.length+1) st).1=R1:=⟨_,rfl⟩
         obtain ⟨R2,hR2⟩:∃ R2,(settleP rs k (64*rs.length+1) st).2=R2:=⟨_,rfl⟩
         rw [hR1,hR2] at HCC hA
         clear hS hO hR1 hR2 HW
         cases R1 with
         | true=>
          as_aux_lemma=>
           have HA2:Hid (settleAll rs (rs.length - (k+1)) (k+1) R2=E):=by show _=E;simpa using hA
           clear hA
           go_wp2_with (go_at_call 133;refine HCC.out.mono ?_;rintro e w' ⟨ln',rfl,hS',hO'⟩)
           exact ⟨⟨k+1,by go_num,by omega,⟨R2,ln',HA2.out,hS',hO'⟩,HBW.out⟩,by simp [intOf];omega⟩
         | false=>
          as_aux_lemma=>
           have HA2:Hid (E=(some k,R2)):=by show E=_;simpa using hA.symm
           clear hA
           go_wp2_with (go_at_call 133;refine HCC.out.mono ?_;rintro e w' ⟨ln',rfl,hS',hO'⟩)
           have hb:Below w.heap.size w w':=(box_below HBW.out).trans (hS'.bel.mono (box_below HBW.out).size)
           refine bodyPost_ret (v := .tuple #[.pointer none,.int .i64 k,.int .i64 81]) (by simp [results,Tryz.f97,go_sem]) rfl ⟨hb,.inl ⟨((k:Int),81),?_,rfl⟩⟩
           unfold wgh
           rw [if_neg (by rw [HE.out.2];simp),HC.out,HX.out]
           simp only
           rw [HSE.out,HA2.out]
       · as_aux_lemma=>
          have hge:¬ (k:Int)<(n:Int):=by omega
          go_wp2
          obtain ⟨st,ln,hA,hS,hO⟩:=HW.out.h
          rw [show rs.length - k=0 by have:=HN.out;omega,settleAll] at hA
          have hb:Below w.heap.size w wr:=(box_below HBW.out).trans (hS.bel.mono (box_below HBW.out).size)
          refine bodyPost_ret (v := .tuple #[.pointer (some ⟨sp,0,none⟩),.int .i64 0,.int .i64 0]) (by simp [results,Tryz.f97,go_sem]) rfl ⟨hb,.inr ⟨st,sp,?_,rfl,wn,m1,ga,m2,_,_,bv,uvs,ln,(box_below HBW.out).size,hS,hO⟩⟩
          unfold wgh
          rw [if_neg (by rw [HE.out.2];simp),HC.out,HX.out]
          simp only
          rw [HSE.out,←hA]
 · have hq':(e2 != 0)=true:=by simpa using hq
   go_enter Tryz.func97,Tryz.ntmps97
   go_wp2_with (go_at_call 130;refine (HA.out _ ((Grown.refl _).alloc _)).mono ?_;rintro e w1 ⟨rfl,hG1⟩)
   refine bodyPost_ret (v := .tuple #[.pointer none,.int .i64 e1,.int .i64 e2]) (by simp [results,Tryz.f97,go_sem]) rfl ⟨(((Grown.refl w).alloc _).trans hG1).below,.inl ⟨(e1,e2),?_,rfl⟩⟩
   unfold wgh
   rw [if_pos (by rw [HE.out.2];exact hq),HE.out.1,HE.out.2]
def wgtK (rs:List Rl) (ws:List Int) (u:Int):Nat→Int
 | 0=>1
 | k+1=>if wgtK rs ws u k<at0 ws k∧hasB (fstS rs k) u=true then at0 ws k else wgtK rs ws u k
def chkW (rs:List Rl):Int × Int:=(wgh rs).2
def wgtP (rs:List Rl) (u:Int):Int:=match (wgh rs).1 with
 | none=>0
 | some st=>if wd u=0 then 0 else wgtK rs st.ws u rs.length
theorem wgh_some {rs:List Rl} {st:St} {c:Int × Int} (h:wgh rs=(some st,c)):rs.length≤256∧∀ r∈rs,Ok r:=by
 unfold wgh at h
 by_cases h0:(allE rs).2≠0
 · rw [if_pos h0] at h;injection h with h1;cases h1
 · exact allE_ok (Classical.not_not.1 h0)
theorem wgh_none {rs:List Rl} {c:Int × Int} (h:wgh rs=(none,c)):c.2≠0:=by
 unfold wgh at h
 by_cases h0:(allE rs).2≠0
 · rw [if_pos h0] at h;injection h with _ h1;rw [←h1];exact h0
 · rw [if_neg h0] at h
   split at h
   · injection h with _ h1;rw [←h1];simp
   · split at h
     · injection h with _ h1;rw [←h1];simp
     · injection h with h1;cases h1
set_option maxHeartbeats 2000000 in
theorem wcheck_any (rv:Value) (rs:List Rl) (w:World) (hT:Tab w) (h:PsR w rv rs):Calls Tryz.prog 66 #[.agg #[rv]] w fun e w'=>e = .returned (.tuple #[.int .i64 (chkW rs).1,.int .i64 (chkW rs).2])∧Below w.heap.size w w':=by
 have HC:Hid (∀ ob,Calls Tryz.prog 97 #[.agg #[rv]] (w.alloc ob) fun e w'=>∃ p,e = .returned (.tuple #[.pointer p,.int .i64 (chkW rs).1,.int .i64 (chkW rs).2])∧Below w.heap.size w w'):=fun ob=>by
  have hg:Grown w (w.alloc ob):=(Grown.refl _).alloc ob
  refine (weighed_any rv rs (w.alloc ob) (hT.grown hg) (h.grown hg)).mono ?_
  rintro e w' ⟨hb,⟨c,h1,rfl⟩ | ⟨st,sp,h1,rfl,_⟩⟩
  · exact ⟨none,by unfold chkW;rw [h1],hg.below.trans (hb.mono hg.size)⟩
  · exact ⟨_,by unfold chkW;rw [h1],hg.below.trans (hb.mono hg.size)⟩
 generalize (chkW rs).1=c1 at HC ⊢
 generalize (chkW rs).2=c2 at HC ⊢
 obtain ⟨ra,rc,rfl,_,_⟩:=h
 go_enter Tryz.func66,Tryz.ntmps66
 go_wp2_with (go_at_call 97;refine (HC.out _).mono ?_;rintro e w' ⟨p,rfl,hb⟩)
 exact bodyPost_ret (v := .tuple #[.int .i64 c1,.int .i64 c2]) (by simp [results,Tryz.f66,go_sem]) rfl ⟨rfl,hb⟩
theorem touch_of:∀ (a b:List (Int × Int)) (u:Int),Good a→Good b→hasU a u→hasU b u→touchL a b=true
 | [],_,u,_,_,h,_=>by obtain ⟨x,hx,_⟩:=h;simp at hx
 | x::a,[],u,_,_,_,h=>by obtain ⟨y,hy,_⟩:=h;simp at hy
 | x::a,y::b,u,ha,hb,h1,h2=>by
  have ga:Good a:=⟨fun z hz=>ha.1 z (List.mem_cons_of_mem _ hz),(List.pairwise_cons.1 ha.2).2⟩
  have gb:Good b:=⟨fun z hz=>hb.1 z (List.mem_cons_of_mem _ hz),(List.pairwise_cons.1 hb.2).2⟩
  have aa:=(List.pairwise_cons.1 ha.2).1
  have bb:=(List.pairwise_cons.1 hb.2).1
  have wx:=(whole_iff _ _).1 (ha.1 x List.mem_cons_self)
  have wy:=(whole_iff _ _).1 (hb.1 y List.mem_cons_self)
  rw [touch_cons]
  obtain ⟨p,hp,hp1,hp2⟩:=h1
  obtain ⟨q,hq,hq1,hq2⟩:=h2
  by_cases c1:x.2<y.1
  · rw [if_pos c1]
    refine touch_of a (y::b) u ga hb ?_ ⟨q,hq,hq1,hq2⟩
    rcases List.mem_cons.1 hp with rfl | hp
    · exfalso
      rcases List.mem_cons.1 hq with rfl | hq
      · omega
      · have:=bb q hq;omega
    · exact ⟨p,hp,hp1,hp2⟩
  · rw [if_neg c1]
    by_cases c2:y.2<x.1
    · rw [if_pos c2]
      refine touch_of (x::a) b u ha gb ⟨p,hp,hp1,hp2⟩ ?_
      rcases List.mem_cons.1 hq with rfl | hq
      · exfalso
        rcases List.mem_cons.1 hp with rfl | hp
        · omega
        · have:=aa p hp;omega
      · exact ⟨q,hq,hq1,hq2⟩
    · rw [if_neg c2]
termination_by a b=>a.length+b.length
theorem bump_rs (w:Int) (st:St) (i:Nat):(bump w st i).bk.map Pb.r=st.bk.map Pb.r:=by
 unfold bump
 cases hb:st.bk[i]? with
 | none=>rfl
 | some b=>
  simp only
  split
  · simp only
    obtain ⟨hi,hbi⟩:=List.getElem?_eq_some_iff.1 hb
    rw [List.map_set]
    refine List.ext_getElem (by simp) fun j h1 h2 => ?_
    rw [List.getElem_set]
    split
    · rename_i e;subst e;simp [hbi]
    · rfl
  · rfl
theorem bumps_rs (w:Int):∀ (l:List Nat) (st:St),(l.foldl (bump w) st).bk.map Pb.r=st.bk.map Pb.r
 | [],_=>rfl
 | i::l,st=>by rw [List.foldl_cons,bumps_rs w l,bump_rs]
theorem bump_us (w:Int) (st:St) (i:Nat):(bump w st i).bk.map Pb.us=st.bk.map Pb.us:=by
 unfold bump
 cases hb:st.bk[i]? with
 | none=>rfl
 | some b=>
  simp only
  split
  · exact map_us_set hb
  · rfl
theorem bumps_us (w:Int):∀ (l:List Nat) (st:St),(l.foldl (bump w) st).bk.map Pb.us=st.bk.map Pb.us
 | [],_=>rfl
 | i::l,st=>by rw [List.foldl_cons,bumps_us w l,bump_us]
def wtAt (bk:List Pb) (j:Nat):Int:=(bk[j]?.map Pb.wt).getD 0
theorem bump_wt (w:Int) (st:St) (i j:Nat):wtAt (bump w st i).bk j=if j=i∧j<st.bk.length∧wtAt st.bk j<w then w else wtAt st.bk j:=by
 unfold bump
 cases hb:st.bk[i]? with
 | none=>
  rw [if_neg]
  rintro ⟨rfl,h,_⟩
  rw [List.getElem?_eq_getElem h] at hb
  cases hb
 | some b=>
  obtain ⟨hi,hbi⟩:=List.getElem?_eq_some_iff.1 hb
  simp only
  by_cases hlt:b.wt<w
  · rw [if_pos hlt]
    show wtAt (st.bk.set i _) j=_
    by_cases e:i=j
    · subst e
      have hw:wtAt st.bk i<w:=by unfold wtAt;rw [hb];simpa using hlt
      rw [if_pos ⟨rfl,hi,hw⟩]
      unfold wtAt
      simp [hi]
    · rw [if_neg (fun h=>e h.1.symm)]
      unfold wtAt
      simp [e]
  · rw [if_neg hlt,if_neg]
    rintro ⟨rfl,_,h⟩
    unfold wtAt at h
    rw [hb] at h
    simp at h
    omega
theorem bumps_wt (w:Int):∀ (l:List Nat) (st:St) (j:Nat),wtAt (l.foldl (bump w) st).bk j=if j∈l∧j<st.bk.length∧wtAt st.bk j<w then w else wtAt st.bk j
 | [],st,j=>by simp
 | i::l,st,j=>by
  have hlen:(bump w st i).bk.length=st.bk.length:=by simpa using congrArg List.length (bump_rs w st i)
  rw [List.foldl_cons,bumps_wt w l,hlen,bump_wt]
  by_cases e:j=i
  · subst e
    by_cases h:j<st.bk.length∧wtAt st.bk j<w
    · have h1:(if j=j∧j<st.bk.length∧wtAt st.bk j<w then w else wtAt st.bk j)=w:=if_pos ⟨rfl,h⟩
      rw [h1,if_neg (fun x=>by omega),if_pos ⟨List.mem_cons_self,h⟩]
    · have h1:(if j=j∧j<st.bk.length∧wtAt st.bk j<w then w else wtAt st.bk j)=wtAt st.bk j:=if_neg (fun x=>h x.2)
      rw [h1,if_neg (fun x=>h x.2),if_neg (fun x=>h x.2)]
  · have h1:(if j=i∧j<st.bk.length∧wtAt st.bk j<w then w else wtAt st.bk j)=wtAt st.bk j:=if_neg (fun x=>e x.1)
    rw [h1]
    by_cases h:j∈l∧j<st.bk.length∧wtAt st.bk j<w
    · rw [if_pos h,if_pos ⟨List.mem_cons_of_mem _ h.1,h.2⟩]
    · rw [if_neg h,if_neg]
      rintro ⟨h2,h3⟩
      rcases List.mem_cons.1 h2 with h2 | h2
      · exact e h2
      · exact h ⟨h2,h3⟩
theorem mem_lean {rs:List Rl} {bk:List Pb} {n j:Nat} : j∈leanL rs bk n↔j<bk.length∧touchL (fstS rs n) (usAt bk j)=true:=by
 unfold leanL
 rw [List.mem_filter,List.mem_range]
theorem lift_wt (rs:List Rl) (n:Nat) (st:St) (j:Nat):wtAt (liftP rs n st).bk j=if (j<st.bk.length∧touchL (fstS rs n) (usAt st.bk j)=true)∧wtAt st.bk j<at0 st.aq n then at0 st.aq n else wtAt st.bk j:=by
 unfold liftP
 rw [bumps_wt]
 simp only [mem_lean]
 by_cases h:(j<st.bk.length∧touchL (fstS rs n) (usAt st.bk j)=true)∧wtAt st.bk j<at0 st.aq n
 · rw [if_pos h,if_pos ⟨h.1,h.1.1,h.2⟩]
 · rw [if_neg h,if_neg (fun x=>h ⟨x.1,x.2.2⟩)]
theorem lift_us (rs:List Rl) (n:Nat) (st:St):(liftP rs n st).bk.map Pb.us=st.bk.map Pb.us:=bumps_us _ _ _
theorem lift_rs (rs:List Rl) (n:Nat) (st:St):(liftP rs n st).bk.map Pb.r=st.bk.map Pb.r:=bumps_rs _ _ _
theorem lift_len (rs:List Rl) (n:Nat) (st:St):(liftP rs n st).bk.length=st.bk.length:=by simpa using congrArg List.length (lift_us rs n st)
def Snd (rs:List Rl) (N:Nat) (st:St):Prop:=∀ i j,i<N→j<st.bk.length→touchL (fstS rs i) (usAt st.bk j)=true→at0 st.ws i≤wtAt st.bk j
theorem Snd.lift {rs:List Rl} {N n:Nat} {st:St} (h:Snd rs N st) (hn:n<st.ws.length) (h1:at0 st.ws n<at0 st.aq n):Snd rs N (liftP rs n st):=by
 intro i j hi hj ht
 rw [lift_len] at hj
 rw [usAt_eq (lift_us rs n st),←usAt_eq rfl] at ht
 rw [liftP_ws,at0_set hn,lift_wt]
 have h0:=h i j hi hj ht
 by_cases e:i=n
 · subst e
   rw [if_pos rfl]
   by_cases hc:wtAt st.bk j<at0 st.aq i
   · rw [if_pos ⟨⟨hj,ht⟩,hc⟩];omega
   · rw [if_neg (fun x=>hc x.2)];omega
 · rw [if_neg e]
   split <;> omega
theorem look_none {st:St} : ∀ {k n:Nat},look st k n=none→∀ i,n≤i→i<n+k→at0 st.aq i≤64∧at0 st.aq i≤at0 st.ws i
 | 0,n,_,i,h1,h2=>by omega
 | k+1,n,h,i,h1,h2=>by
  unfold look at h
  split at h
  · cases h
  · rename_i hc
    by_cases e:i=n
    · subst e;omega
    · exact look_none h i (by omega) (by omega)
theorem look_some {st:St} : ∀ {k n m:Nat},look st k n=some m→64<at0 st.aq m∨at0 st.ws m<at0 st.aq m
 | 0,n,m,h=>by simp [look] at h
 | k+1,n,m,h=>by
  unfold look at h
  split at h
  · rename_i hc;cases h;exact hc
  · exact look_some h
structure Run (rs:List Rl) (cs:List Int) (us:List (List (Int × Int))) (rk:List Nat) (st:St):Prop where
 ok:OkSt cs us st
 sn:Snd rs cs.length st
 rk:st.bk.map Pb.r=rk
theorem Run.lift {rs:List Rl} {cs:List Int} {us:List (List (Int × Int))} {rk:List Nat} {st:St} (h:Run rs cs us rk st) {n:Nat} (hn:n<cs.length) (h1:at0 st.ws n<at0 st.aq n) (h2:at0 st.aq n≤64):Run rs cs us rk (liftP rs n st):=
 ⟨h.ok.lift rs hn h1 h2,h.sn.lift (by rw [h.ok.wl];exact hn) h1,(lift_rs rs n st).trans h.rk⟩
theorem settle_sound {rs:List Rl} {cs:List Int} {us:List (List (Int × Int))} {rk:List Nat} {last:Nat} (hl:last<cs.length):∀ (F:Nat) (st:St),Run rs cs us rk st→64*cs.length<F+tws st.ws→Run rs cs us rk (settleP rs last F st).2∧((settleP rs last F st).1=true→look (settleP rs last F st).2 (last+1) 0=none)
 | 0,st,h,hF=>by
  exfalso
  have hb:=tws_bound st.ws (fun i hi=>(h.ok.wb i (by rw [←h.ok.wl];exact hi)).2)
  rw [h.ok.wl] at hb
  omega
 | F+1,st,h,hF=>by
  unfold settleP
  cases hk:look st (last+1) 0 with
  | none=>exact ⟨h,fun _=>hk⟩
  | some n=>
   simp only
   have hle:=look_le st _ _ _ hk
   have hs:=look_some hk
   by_cases h64:64<at0 st.aq n
   · rw [if_pos h64]
     exact ⟨h,fun e=>by cases e⟩
   · rw [if_neg h64]
     have h1:at0 st.ws n<at0 st.aq n:=hs.resolve_left h64
     have hn:n<cs.length:=by omega
     refine settle_sound hl F _ (h.lift hn h1 (by omega)) ?_
     rw [liftP_ws]
     have h3:=tws_set st.ws n (at0 st.aq n) (by rw [h.ok.wl];exact hn)
     have h4:=(h.ok.wb n hn).1
     omega
theorem settleAll_sound {rs:List Rl} {cs:List Int} {us:List (List (Int × Int))} {rk:List Nat} (hc:cs.length=rs.length):∀ (k n:Nat) (st:St),n+k=rs.length→Run rs cs us rk st→(k=0→0<n→look st n 0=none)→∀ R,settleAll rs k n st=(none,R)→Run rs cs us rk R∧(0<rs.length→look R rs.length 0=none)
 | 0,n,st,hn,h,h0,R,e=>by
  simp only [settleAll] at e
  cases e
  refine ⟨h,fun hp => ?_⟩
  have:=h0 rfl (by omega)
  rw [←hn,Nat.add_zero]
  exact this
 | k+1,n,st,hn,h,_,R,e=>by
  have hs:=settle_sound (last:=n) (by omega) (64*rs.length+1) st h (by rw [hc];omega)
  rw [settleAll] at e
  by_cases ht:(settleP rs n (64*rs.length+1) st).1=true
  · rw [if_pos ht] at e
    exact settleAll_sound hc k (n+1) _ (by omega) hs.1 (fun _ _=>hs.2 ht) R e
  · rw [if_neg ht] at e
    cases e
structure Sol (rs:List Rl) (cs:List Int) (us:List (List (Int × Int))) (rk:List Nat) (X:Nat→Int) (Xt:Nat→Int):Prop where
 t:∀ i j,i<cs.length→j<us.length→touchL (fstS rs i) ((us[j]?).getD [])=true→X i≤Xt j
 a:∀ (st:St),st.bk.map Pb.us=us→st.bk.map Pb.r=rk→(∀ j,j<us.length→wtAt st.bk j≤Xt j)→∀ i,i<cs.length→at0 cs i+wsum st.bk i≤X i
 m:∀ i,i<cs.length→X i≤64
structure Bd (cs:List Int) (us:List (List (Int × Int))) (X Xt:Nat→Int) (st:St):Prop where
 w:∀ i,i<cs.length→at0 st.ws i≤X i
 t:∀ j,j<us.length→wtAt st.bk j≤Xt j
theorem settle_least {rs:List Rl} {cs:List Int} {us:List (List (Int × Int))} {rk:List Nat} {X Xt:Nat→Int} (hX:Sol rs cs us rk X Xt) {last:Nat} (hl:last<cs.length):∀ (F:Nat) (st:St),Run rs cs us rk st→Bd cs us X Xt st→(settleP rs last F st).1=true∧Bd cs us X Xt (settleP rs last F st).2
 | 0,st,_,hb=>⟨rfl,hb⟩
 | F+1,st,h,hb=>by
  unfold settleP
  cases hk:look st (last+1) 0 with
  | none=>exact ⟨rfl,hb⟩
  | some n=>
   simp only
   have hle:=look_le st _ _ _ hk
   have hs:=look_some hk
   have hn:n<cs.length:=by omega
   have hul:us.length=st.bk.length:=by rw [←h.ok.uss];simp
   have haq:at0 st.aq n≤X n:=by
    rw [h.ok.asum n hn]
    exact hX.a st h.ok.uss h.rk hb.t n hn
   have hm:=hX.m n hn
   have h64:¬ 64<at0 st.aq n:=by omega
   rw [if_neg h64]
   have h1:at0 st.ws n<at0 st.aq n:=hs.resolve_left h64
   refine settle_least hX hl F _ (h.lift hn h1 (by omega)) ⟨fun i hi => ?_,fun j hj => ?_⟩
   · rw [liftP_ws,at0_set (by rw [h.ok.wl];exact hn)]
     split
     · rename_i e;subst e;exact haq
     · exact hb.w i hi
   · rw [lift_wt]
     split
     · rename_i hc
       have ht:=hc.1.2
       rw [usAt_eq h.ok.uss] at ht
       exact Int.le_trans haq (hX.t n j hn hj ht)
     · exact hb.t j hj
theorem settleAll_least {rs:List Rl} {cs:List Int} {us:List (List (Int × Int))} {rk:List Nat} {X Xt:Nat→Int} (hX:Sol rs cs us rk X Xt) (hc:cs.length=rs.length):∀ (k n:Nat) (st:St),n+k=rs.length→Run rs cs us rk st→Bd cs us X Xt st→(settleAll rs k n st).1=none∧Bd cs us X Xt (settleAll rs k n st).2
 | 0,n,st,_,_,hb=>⟨rfl,hb⟩
 | k+1,n,st,hn,h,hb=>by
  have hs:=settle_sound (last:=n) (by omega) (64*rs.length+1) st h (by rw [hc];omega)
  have hl:=settle_least hX (last:=n) (by omega) (64*rs.length+1) st h hb
  rw [settleAll,if_pos hl.1]
  exact settleAll_least hX hc k (n+1) _ (by omega) hs.1 hl.2
theorem run_start {rs:List Rl} (hO:∀ r∈rs,Ok r) (hn:rs.length≤256):Run rs (csI rs) ((bkI rs rs.length).map Pb.us) ((bkI rs rs.length).map Pb.r) (stK rs rs.length):=by
 refine ⟨okSt_start hO hn,fun i j hi hj _ => ?_,by rw [stK_all]⟩
 rw [csI_len] at hi
 rw [stK_all] at hj ⊢
 simp only at hj ⊢
 have h1:at0 (List.replicate rs.length 1) i=1:=by simp [at0,hi]
 have h2:wtAt (bkI rs rs.length) j=1:=by
  unfold wtAt
  rw [List.getElem?_eq_getElem hj]
  exact (bkI_mem (List.getElem_mem hj)).2.1
 omega
structure Fin (rs:List Rl) (st:St):Prop where
 n:rs.length≤256
 ok:∀ r∈rs,Ok r
 cp:∀ r∈rs,copB r=false
 run:Run rs (csI rs) ((bkI rs rs.length).map Pb.us) ((bkI rs rs.length).map Pb.r) st
 en:∀ i,i<rs.length→at0 st.aq i≤at0 st.ws i
theorem fstC_none:∀ {rs:List Rl} {k:Nat},fstC rs k=none→∀ r∈rs,copB r=false
 | [],_,_,r,h=>by cases h
 | q::l,k,h,r,hr=>by
  unfold fstC at h
  by_cases hq:copB q=true
  · rw [if_pos hq] at h;cases h
  · rw [if_neg hq] at h
    rcases List.mem_cons.1 hr with rfl | hr
    · simpa using hq
    · exact fstC_none h r hr
theorem fstC_of:∀ {rs:List Rl} {k:Nat},(∀ r∈rs,copB r=false)→fstC rs k=none
 | [],_,_=>rfl
 | q::l,k,h=>by
  unfold fstC
  rw [if_neg (by rw [h q List.mem_cons_self];simp)]
  exact fstC_of fun r hr=>h r (List.mem_cons_of_mem _ hr)
theorem fstR_of:∀ {rs:List Rl} {k:Nat},(∀ r∈rs,chk r=0)→fstR rs k=(0,0)
 | [],_,_=>rfl
 | q::l,k,h=>by
  unfold fstR
  rw [if_pos (h q List.mem_cons_self)]
  exact fstR_of fun r hr=>h r (List.mem_cons_of_mem _ hr)
theorem wgh_fin {rs:List Rl} {st:St} {c:Int × Int} (h:wgh rs=(some st,c)):Fin rs st:=by
 have hok:=wgh_some h
 unfold wgh at h
 by_cases h0:(allE rs).2≠0
 · rw [if_pos h0] at h;injection h with h1;cases h1
 · rw [if_neg h0] at h
   cases hC:fstC rs 0 with
   | some n=>rw [hC] at h;injection h with h1;cases h1
   | none=>
    rw [hC] at h
    simp only at h
    obtain ⟨o,R,hR⟩:∃ o R,settleAll rs rs.length 0 (stK rs rs.length)=(o,R):=⟨_,_,rfl⟩
    rw [hR] at h
    cases o with
    | some n=>injection h with h1;cases h1
    | none=>
     injection h with h1 _
     injection h1 with h1
     subst h1
     have hs:=settleAll_sound (csI_len rs) rs.length 0 _ (by omega) (run_start hok.2 hok.1) (fun _ h=>by omega) R hR
     refine ⟨hok.1,hok.2,fstC_none hC,hs.1,fun i hi => ?_⟩
     exact (look_none (hs.2 (by omega)) i (Nat.zero_le _) (by omega)).2
theorem wgtK_mono {rs:List Rl} {ws:List Int} {u:Int} (k:Nat):wgtK rs ws u k≤wgtK rs ws u (k+1):=by
 rw [wgtK]
 split
 · rename_i h;omega
 · exact Int.le_refl _
theorem wgtK_one {rs:List Rl} {ws:List Int} {u:Int} : ∀ k,1≤wgtK rs ws u k
 | 0=>by simp [wgtK]
 | k+1=>Int.le_trans (wgtK_one k) (wgtK_mono k)
theorem wgtK_ge {rs:List Rl} {ws:List Int} {u:Int} : ∀ {n i:Nat},i<n→hasB (fstS rs i) u=true→at0 ws i≤wgtK rs ws u n
 | n+1,i,hi,h=>by
  by_cases e:i=n
  · subst e
    rw [wgtK]
    by_cases hc:wgtK rs ws u i<at0 ws i
    · rw [if_pos ⟨hc,h⟩];exact Int.le_refl _
    · rw [if_neg (fun x=>hc x.1)];omega
  · exact Int.le_trans (wgtK_ge (by omega) h) (wgtK_mono n)
theorem wgtK_is {rs:List Rl} {ws:List Int} {u:Int} : ∀ n,wgtK rs ws u n=1∨∃ i,i<n∧hasB (fstS rs i) u=true∧wgtK rs ws u n=at0 ws i
 | 0 => .inl rfl
 | n+1=>by
  rw [wgtK]
  by_cases hc:wgtK rs ws u n<at0 ws n∧hasB (fstS rs n) u=true
  · rw [if_pos hc];exact .inr ⟨n,by omega,hc.2,rfl⟩
  · rw [if_neg hc]
    rcases wgtK_is n with h | ⟨i,hi,h1,h2⟩
    · exact .inl h
    · exact .inr ⟨i,by omega,h1,h2⟩
theorem mayB_good {r:Rl} (hO:Ok r) {p:Pc} (hp:p∈backP r) (h2:p.k≠2):Good (mayB p):=by
 rcases pc_ok (hO.pc p (List.mem_of_mem_drop hp)) with ⟨h1,hw,_⟩ | ⟨h1,_⟩ | ⟨h1,_,_,_,hm⟩
 · unfold mayB
   rw [if_neg (by omega)]
   refine ⟨fun x hx => ?_,by simp⟩
   simp at hx
   subst hx
   rw [whole_iff]
   unfold wd at hw
   split at hw
   · omega
   · split at hw
     · omega
     · exact absurd rfl hw
 · exact absurd h1 h2
 · unfold mayB
   rw [if_pos h1]
   unfold matB at hm
   simp only [Bool.and_eq_true] at hm
   exact ((validB_iff _).1 hm.1).2
theorem pbs_mem2 {n:Nat} : ∀ {l:List Pc} {b:Pb},b∈pbs n l→∃ p∈l,p.k≠2∧b.us=mayB p
 | [],b,h=>by simp [pbs] at h
 | p::l,b,h=>by
  simp only [pbs] at h
  split at h
  · obtain ⟨q,h1,h2⟩:=pbs_mem2 h
    exact ⟨q,List.mem_cons_of_mem _ h1,h2⟩
  · rename_i h2
    rcases List.mem_cons.1 h with rfl | h
    · exact ⟨p,List.mem_cons_self,h2,rfl⟩
    · obtain ⟨q,h1,h2⟩:=pbs_mem2 h
      exact ⟨q,List.mem_cons_of_mem _ h1,h2⟩
theorem bkI_good {rs:List Rl} (hO:∀ r∈rs,Ok r):∀ {k:Nat} {b:Pb},b∈bkI rs k→Good b.us
 | 0,b,h=>by simp [bkI] at h
 | k+1,b,h=>by
  rw [bkI] at h
  rcases List.mem_append.1 h with h | h
  · exact bkI_good hO h
  · obtain ⟨p,h1,h2,h3⟩:=pbs_mem2 h
    cases hk:rs[k]? with
    | none=>rw [hk] at h1;simp at h1
    | some r=>
     rw [hk] at h1
     rw [h3]
     exact mayB_good (hO r (List.mem_of_getElem? hk)) (by simpa using h1) h2
theorem key_good {rs:List Rl} (hO:∀ r∈rs,Ok r) {i:Nat} (hi:i<rs.length):Good (fstS rs i):=by
 have h:=hO _ (List.getElem_mem hi)
 have h0:=h.k0
 have:=List.all_eq_true.1 h.kS _ (List.getElem_mem h0)
 unfold okS at this
 simp only [Bool.and_eq_true] at this
 rw [fstS_at hi,show keyAt rs[i].key 0=rs[i].key[0] by simp [keyAt,h0]]
 exact ((validB_iff _).1 this.1).2
theorem Fin.us_good {rs:List Rl} {st:St} (h:Fin rs st) {j:Nat} (hj:j<st.bk.length):Good (usAt st.bk j):=by
 have hu:=h.run.ok.uss
 have hl:st.bk.length=(bkI rs rs.length).length:=by simpa using congrArg List.length hu
 rw [usAt_eq hu]
 simp only [List.getElem?_map]
 rw [List.getElem?_eq_getElem (by omega)]
 exact bkI_good h.ok (List.getElem_mem _)
def pairM (rs:List Rl) (l:List (Int × Int)):Int:=(l.take 20).foldl (fun m x=>max (max m (wgtP rs x.1)) (wgtP rs x.2)) 0
def gs (g:List (Int × Int)→Int):List Pb→Nat→Int
 | [],_=>0
 | b::l,n=>(if b.r=n then g b.us else 0)+gs g l n
theorem gs_append (g:List (Int × Int)→Int) (l k:List Pb) (n:Nat):gs g (l++k) n=gs g l n+gs g k n:=by
 induction l with
 | nil=>simp [gs]
 | cons b l ih=>simp only [List.cons_append,gs,ih];omega
theorem gs_le {g:List (Int × Int)→Int} : ∀ {l:List Pb},(∀ b∈l,g b.us≤b.wt)→∀ n,gs g l n≤wsum l n
 | [],_,n=>by simp [gs,wsum]
 | b::l,h,n=>by
  have h1:=gs_le (fun x hx=>h x (List.mem_cons_of_mem _ hx)) n
  have h2:=h b List.mem_cons_self
  simp only [gs,wsum]
  split <;> omega
theorem gs_same {g:List (Int × Int)→Int} : ∀ {l k:List Pb},l.map Pb.r=k.map Pb.r→l.map Pb.us=k.map Pb.us→∀ n,gs g l n=gs g k n
 | [],[],_,_,n=>rfl
 | [],_::_,h,_,n=>by simp at h
 | _::_,[],h,_,n=>by simp at h
 | b::l,c::k,h1,h2,n=>by
  simp only [List.map_cons,List.cons.injEq] at h1 h2
  simp only [gs,h1.1,h2.1,gs_same h1.2 h2.2 n]
theorem gs_pbs (g:List (Int × Int)→Int) (n i:Nat) (h:n≠i):∀ l:List Pc,gs g (pbs n l) i=0
 | []=>rfl
 | p::l=>by
  simp only [pbs]
  split
  · exact gs_pbs g n i h l
  · simp only [gs,gs_pbs g n i h l]
    rw [if_neg h]
    omega
theorem gs_bkI (g:List (Int × Int)→Int) (rs:List Rl) (i:Nat):∀ k,gs g (bkI rs k) i=if i<k then gs g (pbs i ((rs[i]?.map backP).getD [])) i else 0
 | 0=>by simp [bkI,gs]
 | k+1=>by
  rw [bkI,gs_append,gs_bkI g rs i k]
  by_cases h1:i<k
  · rw [if_pos h1,gs_pbs g k i (by omega),if_pos (by omega)];omega
  · rw [if_neg h1]
    by_cases h2:k=i
    · subst h2;rw [if_pos (by omega)];omega
    · rw [gs_pbs g k i h2,if_neg (by omega)];omega
def bkS (rs:List Rl):List Pc→Int
 | []=>0
 | p::l=>(if p.k=1 then wgtP rs p.u else if p.k=3 then pairM rs p.tl else 0)+bkS rs l
def copN:List Pc→Int
 | []=>0
 | p::l=>(if p.k=2 then 1 else 0)+copN l
theorem pbs_cop (n:Nat):∀ l:List Pc,((pbs n l).length:Int)+copN l=l.length
 | []=>rfl
 | p::l=>by
  have ih:=pbs_cop n l
  simp only [pbs,copN]
  split
  · simp only [List.length_cons];omega
  · simp only [List.length_cons];omega
theorem csI_val {rs:List Rl} {i:Nat} (hi:i<rs.length):at0 (csI rs) i=2 - (rs[i].key.length:Int)+copN (backP rs[i]):=by
 rw [csI_at hi,wsum_bkI,if_pos hi,stK_all,List.getElem?_eq_getElem hi]
 have h4:at0 (rs.map askI) i=askI rs[i]:=by simp [at0,hi]
 have h5:=pbs_cop i (backP rs[i])
 simp only [Option.map_some,Option.getD_some]
 rw [h4]
 unfold askI
 omega
theorem plcF_lt (l:List Int) (u:Int):∀ (f lo hi:Nat),lo<hi→plcF l u f lo hi<hi
 | 0,lo,hi,h=>by rw [plcF];exact h
 | f+1,lo,hi,h=>by
  rw [plcF]
  split
  · split
    · exact plcF_lt l u f _ _ (by omega)
    · exact Nat.lt_trans (plcF_lt l u f lo _ (by omega)) (by omega)
  · exact h
theorem plc_lt {l:List Int} (u:Int) (h:0<l.length):plc l u<l.length:=plcF_lt l u _ _ _ h
def In64 (W:List Int):Prop:=∀ j,0≤bAt W j∧bAt W j≤64
theorem grK_in {L W:List Int} {hi:Int} (hW:In64 W):∀ (f k:Nat) (n:Int),0≤n∧n≤64→0≤grK L W hi f k n∧grK L W hi f k n≤64
 | 0,_,_,h=>h
 | f+1,k,n,h=>by
  rw [grK]
  split
  · refine grK_in hW f _ _ ?_
    split
    · exact hW k
    · exact h
  · exact h
theorem grt_in {L W:List Int} (hW:In64 W) (s:List (Int × Int)):0≤grt L W s∧grt L W s≤64:=by
 have:∀ (s:List (Int × Int)) (n:Int),0≤n∧n≤64→0≤s.foldl (gr1 L W) n∧s.foldl (gr1 L W) n≤64:=by
  intro s
  induction s with
  | nil=>intro n h;exact h
  | cons x s ih=>intro n h;exact ih _ (grK_in hW _ _ _ h)
 exact this s 0 ⟨by omega,by omega⟩
def pcW (L W:List Int) (p:Pc):Int:=if p.k=1 then bAt W (plc L p.u) else if p.k=3 then grt L W p.tl else 0
theorem pcW_in {L W:List Int} (hW:In64 W) (p:Pc):0≤pcW L W p∧pcW L W p≤64:=by
 unfold pcW
 split
 · exact hW _
 · split
   · exact grt_in hW _
   · exact ⟨by omega,by omega⟩
def pcS (L W:List Int):List Pc→Int
 | []=>0
 | p::l=>pcW L W p+pcS L W l
theorem pcS_snoc {L W:List Int} (l:List Pc) (p:Pc):pcS L W (l++[p])=pcS L W l+pcW L W p:=by
 induction l with
 | nil=>simp [pcS]
 | cons q l ih=>simp [pcS,ih];omega
theorem copN_snoc (l:List Pc) (p:Pc):copN (l++[p])=copN l+if p.k=2 then 1 else 0:=by
 induction l with
 | nil=>simp [copN]
 | cons q l ih=>simp [copN,ih];omega
theorem take_pc {l:List Pc} {k:Nat} (hk:k<l.length):l.take (k+1)=l.take k++[l[k]]:=by rw [List.take_add_one,List.getElem?_eq_getElem hk];rfl
def wnt (L W:List Int) (r:Rl):Int:=1+pcS L W (backP r) - ((r.key.length:Int) - 1 - copN (backP r))
structure SC (w:World) (lv wv:Value) (L W:List Int):Prop where
 l:IR w lv L
 w:IR w wv W
 e:W.length=L.length
 n:L.length≤4611686018427387903
 p:0<L.length
 b:In64 W
theorem piece_len {r:Rl} (hO:Ok r) {p:Pc} (hp:p∈backP r):p.tl.length≤4611686018427387903:=by
 have h1:=pc_ok (hO.pc p (List.mem_of_mem_drop hp))
 by_cases h2:p.k=3
 · have:=mayB_len hO hp
   rw [mayB,if_pos h2] at this
   omega
 · rcases h1 with ⟨_,_,_,h⟩ | ⟨_,_,h,_⟩ | ⟨h,_⟩
   · rw [h];simp
   · rw [h];simp
   · exact absurd h h2
set_option maxHeartbeats 4000000 in
theorem wants_any (lv wv:Value) (L W:List Int) (r:Rl) (av kv pv rv:Value) (w:World) (hS:SC w lv wv L W) (h:RR w av kv pv rv r) (hO:Ok r) :
 Calls Tryz.prog 87 #[.agg #[lv,wv],.agg #[.bool r.bg,av,kv,pv,.bool r.en,rv,.int .i64 r.cu]] w fun e w'=>e = .returned (.int .i64 (wnt L W r))∧Grown w w':=by
 have HPB:Hid (∀ wx,Calls Tryz.prog 85 #[.agg #[.bool r.bg,av,kv,pv,.bool r.en,rv,.int .i64 r.cu]] wx fun e w'=>∃ v,e = .returned v∧PR w v (backP r)∧Grown wx w'):=fun wx=>rback_any r av kv pv rv wx w h hO.c0 hO.c1
 have HPl:Hid (∀ (V:World) (u:Int),Grown w V→Calls Tryz.prog 88 #[lv,.int .i64 u] V fun e w'=>e = .returned (.int .i64 (plc L u))∧Grown V w'):=fun V u hg=>(place_any lv L u V (hS.l.grown hg) hS.n).mono fun _ _ ⟨h1,h2⟩=>⟨h1,by rw [h2];exact Grown.refl _⟩
 have HPg:Hid (∀ (V:World) (sv:Value) (s:List (Int × Int)),Grown w V→Rs V sv s→s.length≤4611686018427387903→Calls Tryz.prog 115 #[.agg #[lv,wv],sv] V fun e w'=>e = .returned (.int .i64 (grt L W s))∧Grown V w'):=fun V sv s hg hs hn=>greatest_any lv wv sv L W s V (hS.l.grown hg) (hS.w.grown hg) hS.e hs hS.n hn
 have HW:Hid (∀ V,Grown w V→IR V wv W):=fun V hg=>hS.w.grown hg
 have HB:Hid (In64 W∧0<L.length∧W.length=L.length):=⟨hS.b,hS.p,hS.e⟩
 have HPC:Hid (∀ p∈backP r,(p.k=1∨p.k=2∨p.k=3)∧p.tl.length≤4611686018427387903):=fun p hp=>⟨by rcases pc_ok (hO.pc p (List.mem_of_mem_drop hp)) with h | h | h <;> omega,piece_len hO hp⟩
 have HL:Hid ((backP r).length≤16∧1≤r.key.length∧r.key.length≤8):=by have:=hO.r16;exact ⟨by simp [backP];omega,hO.k0,hO.k8⟩
 obtain ⟨la,ln,lc,rfl⟩:=hS.l.sl
 obtain ⟨wa,wn,wc,rfl⟩:=hS.w.sl
 obtain ⟨N,hN⟩:∃ N,L.length=N:=⟨_,rfl⟩
 have hwn:wn=N:=by obtain ⟨_,_,e,_⟩:=hS.w;injection e with _ e2;have:=hS.e;omega
 have hln:ln=N:=by obtain ⟨_,_,e,_⟩:=hS.l;injection e with _ e2;omega
 have hNI:(N:Int)≤4611686018427387903:=by have:=hS.n;omega
 have HN:Hid (L.length=N):=hN
 subst hwn
 subst hln
 obtain ⟨a1,n1,c1,rfl⟩:=h.a.sl
 obtain ⟨ka,kc,hkv,_,_⟩:=h.k
 subst hkv
 obtain ⟨a3,n3,c3,rfl⟩:=h.p.sl
 obtain ⟨a5,n5,c5,rfl⟩:=h.r.sl
 obtain ⟨R,hR⟩:∃ R,wnt L W r=R:=⟨_,rfl⟩
 obtain ⟨kl,hkl⟩:∃ kl,r.key.length=kl:=⟨_,rfl⟩
 have HR:Hid (1+pcS L W (backP r) - ((kl:Int) - 1 - copN (backP r))=R):=by show _=R;rw [←hR,wnt,hkl]
 rw [hR]
 rw [hkl] at HPB HL ⊢
 have hkl8:(kl:Int)≤8:=by have:=HL.out;omega
 have hkl1:(1:Int)≤(kl:Int):=by have:=HL.out;omega
 obtain ⟨xb,hxb⟩:∃ xb,r.bg=xb:=⟨_,rfl⟩
 obtain ⟨xe,hxe⟩:∃ xe,r.en=xe:=⟨_,rfl⟩
 obtain ⟨xc,hxc⟩:∃ xc,r.cu=xc:=⟨_,rfl⟩
 rw [hxb,hxe,hxc] at HPB ⊢
 clear hR hxb hxe hxc h hO hS hN
 obtain ⟨W0,hW0⟩:∃ W0,W0=(w.alloc (.cells #[.slice la ln lc,.slice wa ln wc] 89)).alloc (.cells #[.bool xb,.slice a1 n1 c1,.slice ka kl kc,.slice a3 n3 c3,.bool xe,.slice a5 n5 c5,.int .i64 xc] 60):=⟨_,rfl⟩
 have HG0:Hid (Grown w W0):=by show Grown _ _;rw [hW0];exact ((Grown.refl _).alloc _).alloc _
 have b0:W0.heap[w.heap.size]? = some (.cells #[.slice la ln lc,.slice wa ln wc] 89 (0,0)):=by
  have g:Grown (w.alloc (.cells #[.slice la ln lc,.slice wa ln wc] 89)) W0:=by rw [hW0];exact (Grown.refl _).alloc _
  rw [g.below.block w.heap.size (by simp)];exact heap_alloc_new _ _
 have b1:W0.heap[w.heap.size+1]? = some (.cells #[.bool xb,.slice a1 n1 c1,.slice ka kl kc,.slice a3 n3 c3,.bool xe,.slice a5 n5 c5,.int .i64 xc] 60 (0,0)):=by
  rw [hW0];simpa using heap_alloc_new (w.alloc (.cells #[.slice la ln lc,.slice wa ln wc] 89)) (.cells #[.bool xb,.slice a1 n1 c1,.slice ka kl kc,.slice a3 n3 c3,.bool xe,.slice a5 n5 c5,.int .i64 xc] 60)
 have d0:W0.cell? ⟨w.heap.size,0,none⟩=some (.slice la ln lc):=by rw [cell_of b0];simp
 have d1:W0.cell? ⟨w.heap.size,1,none⟩=some (.slice wa ln wc):=by rw [cell_of b0];simp
 have f2:W0.cell? ⟨w.heap.size+1,2,none⟩=some (.slice ka kl kc):=by rw [cell_of b1];simp
 clear b0 b1
 go_enter Tryz.func87,Tryz.ntmps87
 go_wp2_with fail
 rw [←hW0]
 refine (HPB.out _).mono ?_
 rintro e w2 ⟨v,rfl,hPR,hG2⟩
 have HG2:Hid (Grown W0 w2):=hG2
 have HPR:Hid (PR w2 v (backP r)):=hPR.grown (HG0.out.trans hG2)
 obtain ⟨pa,pc,rfl,_,_⟩:=hPR
 obtain ⟨l,hl⟩:∃ l,backP r=l:=⟨_,rfl⟩
 rw [hl] at HPR HL HR HPC ⊢
 obtain ⟨nb,hnb⟩:∃ nb,l.length=nb:=⟨_,rfl⟩
 have HNB:Hid (l.length=nb):=hnb
 rw [hnb] at HPR HL ⊢
 have hnbI:(nb:Int)≤16:=by have:=HL.out;omega
 have e0:=hG2.cellv d0
 have e1:=hG2.cellv d1
 have e2:=hG2.cellv f2
 clear hnb hG2 HPB hl hW0 d0 d1 f2
 obtain ⟨bx,hbx⟩:∃ bx,w.heap.size=bx:=⟨_,rfl⟩
 rw [hbx] at e0 e1 e2 ⊢
 clear hbx
 go_wp2
 go_loopw [6,7,8] (fun vn vc vi wr=>∃ (k:Nat) (n c:Int),vi = .int .i64 k∧vn = .int .i64 n∧vc = .int .i64 c∧k≤nb∧Hid (n=1+pcS L W (l.take k)∧c=copN (l.take k))∧(0≤n∧n≤1+64*k)∧(0≤c∧c≤k)∧Grown w2 wr) (fun _ _ vi _=>nb - (intOf vi).toNat)
 case atStart=>exact ⟨0,1,0,rfl,rfl,rfl,by omega,⟨by simp [pcS],by simp [copN]⟩,⟨by omega,by omega⟩,⟨by omega,by omega⟩,Grown.refl _⟩
 case round=>
  obtain ⟨k,n,c,rfl,rfl,rfl,hk,HX,⟨hn0,hn1⟩,⟨hc0,hc1⟩,hG⟩:=hrel
  have hk0:(0:Int)≤(k:Int):=by omega
  by_cases hlt:k<nb
  · have hlt':(k:Int)<(nb:Int):=by omega
    have hkb:k<l.length:=by rw [HNB.out];exact hlt
    obtain ⟨a',c',e',_,hPr⟩:=HPR.out
    obtain ⟨pg,po,ha',hPd⟩:=hPr.resolve_left (fun e=>by rw [e] at hkb;simp at hkb)
    injection e' with e1' e2' e3'
    clear e2' e3'
    rw [ha'] at e1'
    subst e1'
    obtain ⟨tv,x0,x1,x2,x3,x4⟩:=hPd k hkb
    have y0:=hG.cellv x0
    obtain ⟨hkind,htl⟩:=HPC.out _ (List.getElem_mem hkb)
    have hS1:Hid (pcS L W (l.take (k+1))=pcS L W (l.take k)+pcW L W l[k]∧copN (l.take (k+1))=copN (l.take k)+if l[k].k=2 then 1 else 0):=⟨by rw [take_pc hkb,pcS_snoc],by rw [take_pc hkb,copN_snoc]⟩
    have hpw:=pcW_in (L:=L) HB.out.1 l[k]
    obtain ⟨p,hp⟩:∃ p,l[k]=p:=⟨_,rfl⟩
    rw [hp] at x0 x1 x4 y0 hkind htl hS1 hpw
    clear hPr ha' hPd hp
    obtain ⟨pk,hpk⟩:∃ pk,p.k=pk:=⟨_,rfl⟩
    rw [hpk] at y0 hkind
    rcases hkind with h1 | h1 | h1
    · as_aux_lemma=>
       subst h1
       have hpW:pcW L W p=bAt W (plc L p.u):=by rw [pcW,if_pos hpk]
       obtain ⟨u,hu⟩:∃ u,p.u=u:=⟨_,rfl⟩
       rw [hu] at hpW x1
       have hpl:=plc_lt u HB.out.2.1
       obtain ⟨pl,hpl'⟩:∃ pl,plc L u=pl:=⟨_,rfl⟩
       rw [hpl'] at hpW hpl
       rw [HN.out] at hpl
       have hplI:(pl:Int)<(ln:Int):=by omega
       have hpl0:(0:Int)≤(pl:Int):=by omega
       obtain ⟨wg,wo,hwa,cw⟩:=ir_cell (HW.out wr (HG0.out.trans (HG2.out.trans hG))) (j:=pl) (by rw [HB.out.2.2,HN.out];exact hpl)
       subst hwa
       rw [←hpW] at cw
       generalize pcW L W p=x at hpW cw hpw hS1
       have HC:Hid (∀ m os,Calls Tryz.prog 88 #[.slice la ln lc,.int .i64 u] (Go.Sort.grow (wr.drewN m) os) fun e w'=>e = .returned (.int .i64 pl)∧Grown (Go.Sort.grow (wr.drewN m) os) w'):=fun m os=>by
        have:=HPl.out _ u ((HG0.out.trans (HG2.out.trans hG)).quiet m os)
        rw [hpl'] at this;exact this
       have HGW:Hid (∀ m os,Grown w2 (Go.Sort.grow (wr.drewN m) os)):=fun m os=>hG.quiet m os
       have HF:Hid (n+x=1+pcS L W (l.take (k+1))∧c=copN (l.take (k+1))):=⟨by rw [hS1.out.1,HX.out.1];omega,by rw [hS1.out.2,HX.out.2,if_neg (by omega)];omega⟩
       have k0:=fun m os=>((Grown.refl wr).quiet m os).cellv (hG.cellv e0)
       have k1:=fun m os=>((Grown.refl wr).quiet m os).cellv (hG.cellv e1)
       have k2:=fun m os=>((Grown.refl wr).quiet m os).cellv (hG.cellv x1)
       have k3:=fun m os=>((Grown.refl wr).quiet m os).cellv cw
       clear hpW hpl' hu HX hS1 x0 x1 x2 x3 x4 hG cw e0 e1 e2 hpk
       go_wp2
       refine wp_region_quiet_grown mixed (by kernel_rfl) ?_
       repeat (go_big_quiet_step ((go_at_call 88;exact grown_of (HC.out _ _))))
       refine wpQuiet_nil ?_
       intro _ hw'
       obtain ⟨⟨nq,osq⟩,hw''⟩:=hw'
       subst hw''
       go_wp2
       exact ⟨⟨k+1,n+x,c,by go_num,by go_num,rfl,by omega,HF,⟨by omega,by omega⟩,⟨by omega,by omega⟩,HGW.out _ _⟩,by simp [intOf];omega⟩
    · as_aux_lemma=>
       subst h1
       have hpW:pcW L W p=0:=by rw [pcW,if_neg (by omega),if_neg (by omega)]
       have HF:Hid (n=1+pcS L W (l.take (k+1))∧c+1=copN (l.take (k+1))):=⟨by rw [hS1.out.1,HX.out.1,hpW];omega,by rw [hS1.out.2,HX.out.2,if_pos hpk]⟩
       clear hpW HX hS1 x0 x1 x2 x3 x4 e0 e1 e2 hpk hpw
       go_wp2
       exact ⟨⟨k+1,n,c+1,by go_num,rfl,by go_num,by omega,HF,⟨by omega,by omega⟩,⟨by omega,by omega⟩,hG⟩,by simp [intOf];omega⟩
    · as_aux_lemma=>
       subst h1
       have hpW:pcW L W p=grt L W p.tl:=by rw [pcW,if_neg (by omega),if_pos hpk]
       generalize pcW L W p=x at hpW hpw hS1
       have HTL:Hid (∀ V,Grown wr V→Rs V tv p.tl):=fun V hg=>x4.grown (hG.trans hg)
       obtain ⟨ta,tn,tc,rfl⟩:=x4.sl
       have HC:Hid (∀ m os,Calls Tryz.prog 115 #[.agg #[.slice la ln lc,.slice wa ln wc],.slice ta tn tc] (Go.Sort.grow (wr.drewN m) os) fun e w'=>e = .returned (.int .i64 x)∧Grown (Go.Sort.grow (wr.drewN m) os) w'):=fun m os=>by
        have:=HPg.out _ _ p.tl ((HG0.out.trans (HG2.out.trans hG)).quiet m os) (HTL.out _ ((Grown.refl wr).quiet m os)) htl
        rw [←hpW] at this;exact this
       have HGW:Hid (∀ m os,Grown w2 (Go.Sort.grow (wr.drewN m) os)):=fun m os=>hG.quiet m os
       have HF:Hid (n+x=1+pcS L W (l.take (k+1))∧c=copN (l.take (k+1))):=⟨by rw [hS1.out.1,HX.out.1];omega,by rw [hS1.out.2,HX.out.2,if_neg (by omega)];omega⟩
       have k0:=fun m os=>((Grown.refl wr).quiet m os).cellv (hG.cellv e0)
       have k1:=fun m os=>((Grown.refl wr).quiet m os).cellv (hG.cellv e1)
       have k2:=fun m os=>((Grown.refl wr).quiet m os).cellv (hG.cellv x3)
       clear hpW HX hS1 x0 x1 x2 x3 x4 hG e0 e1 e2 hpk htl
       go_wp2
       refine wp_region_quiet_grown mixed (by kernel_rfl) ?_
       repeat (go_big_quiet_step ((go_at_call 115;exact grown_of (HC.out _ _))))
       refine wpQuiet_nil ?_
       intro _ hw'
       obtain ⟨⟨nq,osq⟩,hw''⟩:=hw'
       subst hw''
       go_wp2
       exact ⟨⟨k+1,n+x,c,by go_num,by go_num,rfl,by omega,HF,⟨by omega,by omega⟩,⟨by omega,by omega⟩,HGW.out _ _⟩,by simp [intOf];omega⟩
  · as_aux_lemma=>
     have hge:¬ (k:Int)<(nb:Int):=by omega
     have hkn:k≤16:=by omega
     have HQ:Hid (n - ((kl:Int) - 1 - c)=R):=by
      show _=R
      rw [←HR.out]
      have:=HX.out
      rw [List.take_of_length_le (by rw [HNB.out];omega)] at this
      rw [this.1,this.2]
     have g2:=hG.cellv e2
     clear HX HR e0 e1 e2
     go_wp2
     go_ret
     exact ⟨by rw [HQ.out];rfl,HG0.out.trans (HG2.out.trans hG)⟩
theorem Hid.mk' {p:Prop} (h:p):Hid p:=h
theorem step_push2 {ops:Array Oper} {o:Oper} {a:Act} {K:Act→World→Prop} {Q:Exit→Act→World→Prop} {E:Prop} {w:World} (hgd:o.guard=none) (s x:Operand) (t:TypeId)
 (ho:o.op = .call { callee := .builtin .append,args:=#[s,x],argTypes:=#[t,t] }) (ht:Tryz.prog.underlying t=some (.slice 3))
 (base:Nat) (v:Value) (l:List Int) (hs:a.eval s=v) (hown:OwnI w base v l) (g c:Nat) (p q:Int) (hx:a.eval x = .slice (some ⟨g,0,none⟩) 2 c)
 (hp:w.cell? ⟨g,0,none⟩=some (.int .i64 p)) (hq:w.cell? ⟨g,1,none⟩=some (.int .i64 q)) (hl:l.length+2≤8796093022208) (hbase:base≤w.heap.size)
 (h:∀ v' w',OwnI w' base v' (l++[p,q])→Below base w w'→K (a.put o.dst v') w'):if Region.wanted o (yielded ops a.tmps)=true then Oper.wp Tryz.prog o a w K Q else E:=by
 obtain ⟨i0,hi,hz0,hz1,hz2⟩:=info_parts iinfo3
 refine step_append_lies w hgd s x t ho base 3 i0 (.int .i64 0) 1 8 ht hi hz0 hz1 hz2 rfl (by decide) v l.length (ints l) hs hown ⟨g,0,none⟩ 2 c (ints [p,q]) hx rfl ?_ (fun u hu=>by simp [ints] at hu;rcases hu with rfl | rfl <;> rfl) (by omega) (by unfold maxLen;omega) (by omega) hbase _ rfl (fun g' cap w' h2 h3 _ _=>h _ w' ?_ ((Below.refl _ w).grown h3 hbase (fun k hk=>(World.ownsRow.lt hown k hk).1)))
 · intro j u hj
   match j,hj with
   | 0,hj=>simp [ints] at hj;subst hj;exact hp
   | 1,hj=>simp [ints] at hj;subst hj;exact hq
 · unfold OwnI
   rw [ints_append,List.length_append]
   exact h2
def endsL (s:List (Int × Int)):List Int:=s.flatMap fun x=>[x.1,x.2+1]
theorem endsL_succ {s:List (Int × Int)} {k:Nat} (hk:k<s.length):endsL (s.take (k+1))=endsL (s.take k)++[(rg s k).1,(rg s k).2+1]:=by
 rw [List.take_add_one,List.getElem?_eq_getElem hk,rg_lt hk]
 unfold endsL
 rw [List.flatMap_append]
 simp
theorem endsL_len (s:List (Int × Int)):(endsL s).length=2*s.length:=by
 induction s with
 | nil=>rfl
 | cons x s ih=>simp [endsL] at ih ⊢;omega
theorem OwnI.sl {w:World} {base:Nat} {v:Value} {l:List Int} (h:OwnI w base v l):∃ a c,v = .slice a l.length c:=by
 obtain ⟨a,c,e,_⟩:=h.ir
 exact ⟨a,c,e⟩
set_option maxHeartbeats 4000000 in
theorem ends_any (v sv:Value) (l:List Int) (s:List (Int × Int)) (w w0:World) (hS:Rs w0 sv s) (hB:Below w0.heap.size w0 w) (hO:OwnI w w0.heap.size v l) (hb:∀ x∈s,-9000000000000000000≤x.2∧x.2≤9000000000000000000) (hl:l.length+2*s.length≤8796093022208) :
 Calls Tryz.prog 114 #[v,sv] w fun e w'=>∃ v',e = .returned v'∧OwnI w' w0.heap.size v' (l++endsL s)∧Below w0.heap.size w w':=by
 have HS:Hid (∀ V,Below w0.heap.size w V→Rs V sv s):=fun V hv=>hS.below (hB.trans hv) (Nat.le_refl _)
 have HB:Hid (∀ x∈s,-9000000000000000000≤x.2∧x.2≤9000000000000000000):=hb
 have HL:Hid (l.length+2*s.length≤8796093022208):=hl
 have HO:Hid (OwnI w w0.heap.size v l):=hO
 obtain ⟨sa,sc,hsv,_,_⟩:=hS
 subst hsv
 obtain ⟨n,hn⟩:∃ n,s.length=n:=⟨_,rfl⟩
 have HN:Hid (s.length=n):=hn
 rw [hn] at HS ⊢
 have hnI:(n:Int)≤8796093022208:=by omega
 obtain ⟨b0,hb0⟩:∃ b0,w0.heap.size=b0:=⟨_,rfl⟩
 have HZ:Hid (b0≤w.heap.size):=by have:=hB.size;show _≤_;omega
 rw [hb0] at HS HO ⊢
 obtain ⟨va,vc,rfl⟩:=hO.sl
 generalize l.length=vn at HO ⊢
 clear hn hb hl hO hB hb0
 go_enter Tryz.func114,Tryz.ntmps114
 go_wp2
 go_loopw [0,5] (fun vv vi wr=>∃ k:Nat,vi = .int .i64 k∧k≤n∧Hid (OwnI wr b0 vv (l++endsL (s.take k))∧Below b0 w wr)) (fun _ vi _=>n - (intOf vi).toNat)
 case atStart=>exact ⟨0,rfl,by omega,by simpa [endsL] using HO.out,Below.refl _ _⟩
 case round=>
  obtain ⟨k,rfl,hk,HX⟩:=hrel
  clear HO
  have hk0:(0:Int)≤(k:Int):=by omega
  by_cases hlt:k<n
  · have hlt':(k:Int)<(n:Int):=by omega
    have hks:k<s.length:=by rw [HN.out];exact hlt
    obtain ⟨a',c',e',_,hrr⟩:=HS.out wr HX.out.2
    obtain ⟨sg,so,ha',hrd⟩:=hrr.resolve_left (fun e=>by rw [e] at hks;simp at hks)
    injection e' with e1 e2 e3
    clear e2 e3
    rw [ha'] at e1
    subst e1
    obtain ⟨q1,q2⟩:=hrd k hks
    have hbd:=HB.out (rg s k) (by rw [rg_lt hks];exact List.getElem_mem hks)
    have HE:Hid (endsL (s.take (k+1))=endsL (s.take k)++[(rg s k).1,(rg s k).2+1]):=endsL_succ hks
    obtain ⟨x,hx⟩:∃ x,(rg s k).1=x:=⟨_,rfl⟩
    obtain ⟨y,hy⟩:∃ y,(rg s k).2=y:=⟨_,rfl⟩
    rw [hx] at q1 HE
    rw [hy] at q2 HE hbd
    obtain ⟨y0,y1⟩:=hbd
    have HY:Hid (IntKind.i64.wrap (y+1)=y+1):=IntWalk.i64_in _ ⟨by omega,by omega⟩
    obtain ⟨va',vc',rfl⟩:=HX.out.1.sl
    have HW:Hid (∀ W,Grown wr W→OwnI W b0 (.slice va' (l++endsL (s.take k)).length vc') (l++endsL (s.take k))∧b0≤W.heap.size):=fun W hg=>⟨HX.out.1.below hg.below (Nat.le_refl _),by have:=HX.out.2.size;have:=HZ.out;have:=hg.size;omega⟩
    have HLN:Hid ((l++endsL (s.take k)).length+2≤8796093022208):=by
     show _≤_
     have:=HL.out
     rw [List.length_append,endsL_len,List.length_take]
     omega
    have HF:Hid (∀ v' W w',Grown wr W→OwnI w' b0 v' ((l++endsL (s.take k))++[x,y+1])→Below b0 W w'→OwnI w' b0 v' (l++endsL (s.take (k+1)))∧Below b0 w w'):=fun v' W w' hg h1 h2=>⟨by rw [HE.out,←List.append_assoc];exact h1,(HX.out.2.trans (hg.below.mono (by have:=HX.out.2.size;have:=HZ.out;omega))).trans h2⟩
    generalize (l++endsL (s.take k)).length=vn at HW ⊢
    clear hrr hrd hx hy ha' HX
    go_wp2
    go_region_law (refine step_push2 rfl (.tmp 12) (.tmp 24) 49 rfl Tryz.underlying49 b0 (.slice va' vn vc') (l++endsL (s.take k)) rfl (HW.out _ (by (repeat (first | exact Grown.refl _ | refine Grown.alloc ?_ _ | refine Grown.drew ?_ | refine Grown.drewN ?_ _ | refine Grown.quiet ?_ _ _)))).1 _ _ x (y+1) rfl (by simp) (by first | (simp;done) | (simp;exact HY.out)) HLN.out (HW.out _ (by (repeat (first | exact Grown.refl _ | refine Grown.alloc ?_ _ | refine Grown.drew ?_ | refine Grown.drewN ?_ _ | refine Grown.quiet ?_ _ _)))).2 ?_;intro v2 w2 hO2 hB2;have HO2:Hid (OwnI w2 b0 v2 (l++endsL (s.take (k+1)))∧Below b0 w w2):=HF.out _ _ _ (by (repeat (first | exact Grown.refl _ | refine Grown.alloc ?_ _ | refine Grown.drew ?_ | refine Grown.drewN ?_ _ | refine Grown.quiet ?_ _ _))) hO2 hB2;clear hO2 hB2)
    all_goals (go_wp2;exact ⟨⟨k+1,by go_num,by omega,HO2⟩,by simp [intOf];omega⟩)
  · as_aux_lemma=>
     have hge:¬ (k:Int)<(n:Int):=by omega
     obtain ⟨hX1,hX2⟩:=HX.out
     rw [List.take_of_length_le (by rw [HN.out];omega)] at hX1
     have HQ:=Hid.mk' (And.intro hX1 hX2)
     clear hX1 hX2
     clear HX
     go_wp2
     go_ret
     exact ⟨_,rfl,HQ.out⟩
end Go.Proofs
