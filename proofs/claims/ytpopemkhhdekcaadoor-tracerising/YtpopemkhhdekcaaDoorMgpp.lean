/-
  Several texts in one (Zi Zj Zl Zm Gj Zo).
-/
import Derived.RangeFuncNested
import Derived.RangeFuncBound
import Derived.RangeFuncCalls
import Derived.RangeFuncLeaves
import Derived.Shelf.Abstract
import Derived.Shelf.RegionOpen
import Derived.WalkKit
import Derived.WalkSpells
import Derived.WalkLawsBesides
import Derived.OwnWalkIn
import Derived.TacticsInMore
import Derived.LoopNIn
import Derived.LoopIn
import Derived.BigQuiet
import Derived.RegionIn
import Derived.Deep.QuietTactic
import Derived.Deep.RegionWith
import Derived.Lib.OthersKept
import Derived.Maps.AppendAt
import Derived.Lib.SmallJoins
import Derived.Shelf.SlSortCmp.QuietGrown
import Derived.RangeFuncWrites
import Derived.RangeFuncBox
import Derived.Maps.OwnIn
import Derived.Test.YtpopemkhhdekcaaDoorZhp
import Derived.Test.YtpopemkhhdekcaaDoorMgip
import Derived.Test.YtpopemkhhdekcaaDoorMgnp
import Derived.Test.YtpopemkhhdekcaaDoorGip
import Derived.Test.YtpopemkhhdekcaaDoorGxp
namespace Go.Proofs
open Go.RowKit Go.Shelf
set_option maxRecDepth 100000
attribute [local go_sem] Oper.semAt_some
attribute [local go_sem ↓] Go.wp_at_zero Go.wp_at_succ
def lfO (bk:List Int) (s:ByteArray) (p:Nat):List Int:=bk.reverse++intsU (unitsN s s.size p)
structure TK (W:World) (tb base:Nat) (rv:Value) (s:ByteArray) (p:Nat) (bv:Value) (bk:List Int) (dn:Int):Prop where
 blk:W.heap[tb]? = some (.cells #[rv,.string (s.extract p s.size),bv,.int .i64 dn] 98 (0,0))
 own:OwnI W base bv bk
 pl:p≤s.size
 ne:∀ b,bv.ownBlock=some b→b≠tb
theorem TK.fr {W W':World} {tb base:Nat} {rv:Value} {s:ByteArray} {p:Nat} {bv:Value} {bk:List Int} {dn:Int} (h:TK W tb base rv s p bv bk dn) {D:Nat→Prop} (hf:Fr W W' D) (h1:¬ D tb) (h2:∀ b,bv.ownBlock=some b→¬ D b):TK W' tb base rv s p bv bk dn:=⟨(hf.block _ (blk_lt h.blk) h1).trans h.blk,own_fr h.own hf h2,h.pl,h.ne⟩
theorem uw_in (s:ByteArray) (p:Nat) (hp:p<s.size):p+uw s p≤s.size:=by
 by_cases h:1<uw s p
 · exact (uw_many s p h).1
 · omega
theorem ext_ext (s:ByteArray) (p k:Nat) (_hk:p+k≤s.size):(s.extract p s.size).extract k (s.extract p s.size).size=s.extract (p+k) s.size:=by
 apply ByteArray.ext
 apply Array.ext'
 have h1:(s.extract p s.size).data.toList=s.data.toList.drop p:=by rw [Lib.extract_to_end]
 rw [Lib.extract_to_end,h1,List.drop_drop,Lib.extract_to_end]
theorem OwnI.front {w:World} {base g n c:Nat} {l:List Int} {u:Int} (h:OwnI w base (.slice (some ⟨g,0,none⟩) (n+1) c) (l++[u])) (hl:l.length=n):OwnI w base (.slice (some ⟨g,0,none⟩) n c) l:=by
 subst hl
 refine ⟨by simp [ints],?_⟩
 rcases h.2 with ⟨e,_⟩ | ⟨g',cap,cur,e,h1,h2,h3,h4,h5,h6⟩
 · cases e
 · injection e with e1 e2 e3
   injection e1 with e1
   injection e1 with e1 _ _
   subst e1
   subst e3
   refine .inr ⟨g,c,cur,rfl,h1,h2,by simp at h3;omega,h4,h5,?_⟩
   have h7:=congrArg (List.take (l.length*1)) h6
   rw [List.take_take,ints_append] at h7
   simp at h7
   rw [Nat.mul_one]
   rw [h7,List.take_append_of_le_length (by simp [ints])]
   exact List.take_of_length_le (by simp [ints])
def FstQ (W:World) (tb base:Nat) (rv:Value) (s:ByteArray) (p:Nat) (bv:Value) (bk:List Int) (dn:Int) (e:Ending) (W':World):Prop:=∃ u p' bv' bk',e = .returned (.int .i64 u)∧TK W' tb base rv s p' bv' bk' dn∧lfO bk s p=u::lfO bk' s p'∧Fr W W' (fun k=>k=tb)∧p≤p'∧bk'.length=bk.length - 1∧∀ b,bv'.ownBlock=some b→bv.ownBlock=some b
set_option maxHeartbeats 2000000 in
theorem first_back {W:World} {tb base:Nat} {rv:Value} {s:ByteArray} {p g m c:Nat} {l:List Int} {u dn:Int} (h:TK W tb base rv s p (.slice (some ⟨g,0,none⟩) (m+1) c) (l++[u]) dn) (hl:l.length=m) (hm:m≤4000000):Calls Tryd.prog 79 #[.pointer (some ⟨tb,0,none⟩)] W (FstQ W tb base rv s p (.slice (some ⟨g,0,none⟩) (m+1) c) (l++[u]) dn):=by
 have c2:W.cell? ⟨tb,2,none⟩=some (.slice (some ⟨g,0,none⟩) (m+1) c):=by rw [cell_of h.blk];rfl
 have f2:W.frozen? ⟨tb,2,none⟩=false:=free_of h.blk
 have cu:W.cell? ⟨g,m,none⟩=some (.int .i64 u):=by
  have:=World.ownsRow.cellAt (n:=m+1) (by have:=h.own;unfold OwnI at this;rw [List.length_append,hl] at this;exact this) m (by omega)
  rw [this,ints_append,List.getElem?_append_right (by simp [ints,hl])]
  simp [ints,hl]
 have hmI:(m:Int)≤4000000:=by omega
 have hmc:m+1≤c:=by
  rcases h.own.2 with ⟨e,_⟩ | ⟨g',cap,cur,e,_,_,h3,_⟩
  · cases e
  · injection e with _ _ e3;subst e3;simp at h3;omega
 have HH:=Hid.mk' h
 clear h
 go_enter Tryd.func79,Tryd.ntmps79
 go_wp2
 go_ret
 have hb:=HH.out.blk
 refine ⟨u,p,.slice (some ⟨g,0,none⟩) m c,l,rfl,⟨by rw [set_heap hb];rfl,own_fr (HH.out.own.front hl) (fr_set _ _ _ _) (fun b hb e=>HH.out.ne b hb e),HH.out.pl,HH.out.ne⟩,by simp [lfO],fr_set _ _ _ _,Nat.le_refl _,by simp,fun b hb=>hb⟩
set_option maxHeartbeats 2000000 in
theorem first_src {W:World} {tb base:Nat} {rv:Value} {s:ByteArray} {p:Nat} {a:Option Addr} {c:Nat} {dn:Int} (h:TK W tb base rv s p (.slice a 0 c) [] dn) (hp:p<s.size) (hs:s.size≤4000000):Calls Tryd.prog 79 #[.pointer (some ⟨tb,0,none⟩)] W (FstQ W tb base rv s p (.slice a 0 c) [] dn):=by
 have c1:W.cell? ⟨tb,1,none⟩=some (.string (s.extract p s.size)):=by rw [cell_of h.blk];rfl
 have c2:W.cell? ⟨tb,2,none⟩=some (.slice a 0 c):=by rw [cell_of h.blk];rfl
 have hes:(s.extract p s.size).size=s.size - p:=by simp [ByteArray.size_extract]
 have hf2:(firstU (s.extract p s.size)).2=(uw s p:Int):=by
  have hz:(s.extract p s.size).size=(s.size - p - 1)+1:=by omega
  unfold firstU units
  rw [hz,unitsN_step _ _ 0 (by omega),uAt_tail s p hp]
  exact wd_uAt s p
 have HF:Hid (Calls Tryd.prog 56 #[.string (s.extract p s.size)] W fun e w'=>e = .returned (.tuple #[.int .i64 (uAt s p:Int),.int .i64 (uw s p:Int)])∧Below W.heap.size W w'):=by
  have:=first_any (s.extract p s.size) W (by unfold maxLen;omega)
  rw [firstU_tail s p hp,hf2] at this
  exact this
 have huw:=uw_in s p hp
 have hup:=uw_pos s p
 obtain ⟨k,hk⟩:∃ k,uw s p=k:=⟨_,rfl⟩
 have HE:=Hid.mk' (ext_ext s p k (by omega))
 have HU:Hid (lfO [] s p=(uAt s p:Int)::lfO [] s (p+k)):=by
  show _=_
  unfold lfO
  rw [units_next s p hp,hk]
  rfl
 obtain ⟨u,hu⟩:∃ u:Int,(uAt s p:Int)=u:=⟨_,rfl⟩
 rw [hk,hu] at HF
 rw [hu] at HU
 obtain ⟨r,hr⟩:∃ r,s.extract p s.size=r:=⟨_,rfl⟩
 rw [hr] at c1 HF HE hes
 rw [hes] at HE
 have hkI:(k:Int)≤(r.size:Int):=by omega
 have HH:=Hid.mk' h
 have HP:Hid (p+k≤s.size):=by show _≤_;omega
 clear h hf2 hu hk huw hup hr
 go_enter Tryd.func79,Tryd.ntmps79
 go_wp2_with (go_at_call 56;refine HF.out.mono ?_;rintro e w1 ⟨rfl,hb1⟩;have hB1:=(hb1.block _ (blk_lt HH.out.blk)).trans HH.out.blk;have d1:w1.cell? ⟨tb,1,none⟩=some (.string r):=cell_below c1 hb1 (Nat.le_refl _);have e1:w1.frozen? ⟨tb,1,none⟩=false:=free_of hB1;have HB1:=Hid.mk' hb1;clear hb1 hB1)
 go_ret
 have hb:=(HB1.out.block _ (blk_lt HH.out.blk)).trans HH.out.blk
 have f1:Fr W w1 (fun k=>k=tb):=fr_below HB1.out (Nat.le_refl _) _
 refine ⟨u,p+k,.slice a 0 c,[],rfl,⟨?_,own_fr (HH.out.own.below HB1.out (Nat.le_refl _)) (fr_set _ _ _ _) (fun b hb e=>HH.out.ne b hb e),HP.out,HH.out.ne⟩,HU.out,f1.trans (fr_set _ _ _ _) fun _ _ e=>e,by omega,rfl,fun b hb=>hb⟩
 rw [set_heap hb,←HE.out]
 rfl
theorem clean_any {W:World} {tb base:Nat} {rv:Value} {s:ByteArray} {p:Nat} {bv:Value} {bk:List Int} {dn:Int} (h:TK W tb base rv s p bv bk dn):Calls Tryd.prog 45 #[.pointer (some ⟨tb,0,none⟩)] W fun e w'=>e = .returned (.bool (decide (bk=[])))∧w'=W:=by
 have c2:W.cell? ⟨tb,2,none⟩=some bv:=by rw [cell_of h.blk];rfl
 obtain ⟨a,c,hv⟩:=h.own.sl
 subst hv
 obtain ⟨n,hn⟩:∃ n,bk.length=n:=⟨_,rfl⟩
 have e:decide (bk=[])=decide ((n:Int)=0):=by
  rw [decide_eq_decide,←List.length_eq_zero_iff,hn];omega
 rw [e]
 rw [hn] at c2
 clear h hn e
 go_enter Tryd.func45,Tryd.ntmps45
 go_wp2
 go_ret
 exact ⟨by first | rfl | simp,rfl⟩
theorem first_any' {W:World} {tb base:Nat} {rv:Value} {s:ByteArray} {p:Nat} {bv:Value} {bk:List Int} {dn:Int} (h:TK W tb base rv s p bv bk dn) (hne:lfO bk s p≠[]) (hb:bk.length≤4000000) (hs:s.size≤4000000):Calls Tryd.prog 79 #[.pointer (some ⟨tb,0,none⟩)] W (FstQ W tb base rv s p bv bk dn):=by
 by_cases hbk:bk=[]
 · subst hbk
   obtain ⟨a,c,hv⟩:=h.own.sl
   subst hv
   refine first_src h ?_ hs
   rcases Nat.lt_or_ge p s.size with e | e
   · exact e
   · exact absurd (by unfold lfO;rw [unitsN_end s _ p (by omega)];rfl) hne
 · obtain ⟨l,u,rfl⟩:∃ l u,bk=l++[u]:=⟨bk.dropLast,bk.getLast hbk,(List.dropLast_concat_getLast hbk).symm⟩
   rcases h.own.2 with ⟨e,h0⟩ | ⟨g,cap,cur,e,_⟩
   · simp at h0
   · subst e
     rw [List.length_append,List.length_singleton] at h ⊢
     exact first_back h rfl (by simp at hb;omega)
def TkQ (W:World) (tb base:Nat) (rv:Value) (s:ByteArray) (p:Nat) (bv:Value) (bk:List Int) (dn:Int) (n:Nat) (e:Ending) (W':World):Prop:=∃ tv p' bv' bk',e = .returned tv∧OwnI W' W.heap.size tv ((lfO bk s p).take n)∧TK W' tb base rv s p' bv' bk' dn∧lfO bk' s p'=(lfO bk s p).drop n∧Fr W W' (fun k=>k=tb)∧p≤p'∧(∀ b,bv'.ownBlock=some b→bv.ownBlock=some b)∧bk'.length=bk.length - n
set_option maxHeartbeats 4000000 in
theorem take_any {W:World} {tb base:Nat} {rv:Value} {s:ByteArray} {p:Nat} {bv:Value} {bk:List Int} {dn:Int} (h:TK W tb base rv s p bv bk dn) (n:Nat) (hn:n≤(lfO bk s p).length) (hb:bk.length≤3000000) (hs:s.size≤90000):Calls Tryd.prog 60 #[.pointer (some ⟨tb,0,none⟩),.int .i64 (n:Int)] W (TkQ W tb base rv s p bv bk dn n):=by
 have hll:(lfO bk s p).length≤3900000:=by
  have h1:(intsU (unitsN s s.size p)).length≤s.size:=by rw [intsU_length];exact units_len_N s _ _
  unfold lfO
  rw [List.length_append,List.length_reverse]
  omega
 have hnI:(n:Int)≤3900000:=by omega
 have HL:=Hid.mk' (And.intro hn hll)
 have HH:=Hid.mk' h
 have htb:=blk_lt h.blk
 have hbn:=h.ne
 have HBB:Hid (∀ b,bv.ownBlock=some b→b<W.heap.size):=fun b hb=>(World.ownsRow.lt h.own b hb).2
 clear h
 go_enter Tryd.func60,Tryd.ntmps60
 go_wp2
 go_loopg [5,7] n (fun q s5 s7 wr=>∃ (i:Nat) (ta:Option Addr) (tc:Nat) (p':Nat) (bv':Value) (bk':List Int),s5 = .slice ta i tc∧s7 = .int .i64 (i:Int)∧i≤n∧n - i≤q∧Hid (OwnI wr W.heap.size (.slice ta i tc) ((lfO bk s p).take i)∧TK wr tb base rv s p' bv' bk' dn∧lfO bk' s p'=(lfO bk s p).drop i∧Fr W wr (fun k=>k=tb)∧p≤p'∧(∀ b,bv'.ownBlock=some b→bv.ownBlock=some b)∧bk'.length=bk.length - i))
 case atStart=>exact ⟨0,none,0,p,bv,bk,rfl,rfl,by omega,by omega,OwnI.nil _ _,HH.out,rfl,Fr.refl _ _,Nat.le_refl _,fun _ h=>h,rfl⟩
 case round=>
  obtain ⟨i,ta,tc,p',bv',bk',rfl,rfl,hi1,hi2,HR⟩:=hrel
  have hiI:(i:Int)≤3900000:=by omega
  by_cases hil:i<n
  · have hilI:(i:Int)<(n:Int):=by omega
    obtain ⟨r1,r2,r3,r4,r5,r6,r7⟩:=HR.out
    have hne:lfO bk' s p'≠[]:=by
     rw [r3]
     intro e
     have h1:=congrArg List.length e
     rw [List.length_drop,List.length_nil] at h1
     have h2:=HL.out.1
     omega
    have HF:=Hid.mk' (first_any' r2 hne (by omega) (by omega))
    have HRR:Hid (OwnI wr W.heap.size (.slice ta i tc) ((lfO bk s p).take i)∧lfO bk' s p'=(lfO bk s p).drop i∧Fr W wr (fun k=>k=tb)∧p≤p'∧(∀ b,bv'.ownBlock=some b→bv.ownBlock=some b)∧bk'.length=bk.length - i):=⟨r1,r3,r4,r5,r6,r7⟩
    clear r1 r2 r3 r4 r5 r6 r7 HR hne
    go_wp2_with (first
     | (go_at_call 79
        refine HF.out.mono ?_
        rintro e w1 ⟨u,p2,bv2,bk2,rfl,t1,t2,t3,t4,t6,t5⟩
        have HT:=Hid.mk' (And.intro t1 (And.intro t2 (And.intro t3 (And.intro t4 (And.intro t6 t5)))))
        have HO:Hid (OwnI (w1.alloc (.cells #[.int .i64 u] 3)) W.heap.size (.slice ta i tc) ((lfO bk s p).take i)):=OwnI.alloc (own_fr HRR.out.1 t3 fun b hb e=>by have:=(World.ownsRow.lt HRR.out.1 b hb).1;have e:b=tb:=e;omega) _
        clear t1 t2 t3 t4 t5 t6)
     | (at_builtin
        go_must (refine app_I3 rfl _ _ rfl W.heap.size (.slice ta i tc) _ ((lfO bk s p).take i) [u] rfl HO.out rfl (ir_lone (heap_alloc_new _ _)) (by have:=HL.out.2;simp;omega) (by have:=HRR.out.2.2.1.size;have:=HT.out.2.2.1.size;simp;omega) ?_
                 intro v' w2 q1 q2 q3
                 have HQ:=Hid.mk' (And.intro q1 q2)
                 obtain ⟨va,vc,hve⟩:=OwnI.sl q1
                 have hlen:((lfO bk s p).take i++[u]).length=i+1:=by rw [List.length_append,List.length_take,List.length_singleton];have:=HL.out.1;omega
                 rw [hlen] at hve
                 subst hve
                 clear q1 q2 q3 hlen)))
    go_wp2
    go_roundg (n - (i+1))
    case measure=>omega
    case rel=>
     obtain ⟨x1,x2,x3,x4,x5,x6⟩:=HRR.out
     obtain ⟨t1,t2,t3,t4,t6,t5⟩:=HT.out
     obtain ⟨q1,q2⟩:=HQ.out
     have g1:Grown w1 (w1.alloc (.cells #[.int .i64 u] 3)):=(Grown.refl _).alloc _
     have fq:Fr w1 w2 (fun k=>(Value.slice ta i tc).ownBlock=some k):=(fr_grown g1 _).trans (fr_by q2) fun _ _ e=>e
     have hdrop:(lfO bk s p).drop i=u::lfO bk2 s p2:=by rw [←x2];exact t2
     have htake:(lfO bk s p).take (i+1)=(lfO bk s p).take i++[u]:=by
      have hl:i<(lfO bk s p).length:=by have:=HL.out.1;omega
      have h0:=List.drop_eq_getElem_cons hl
      rw [hdrop] at h0
      injection h0 with h0 _
      rw [List.take_succ_eq_append_getElem hl,h0]
     refine ⟨i+1,va,vc,p2,bv2,bk2,rfl,rfl,by omega,Nat.le_refl _,by rw [htake];exact q1,t1.fr fq (fun e => ?_) (fun b hb e => ?_),?_,?_,by omega,fun b hb=>x5 b (t5 b hb),?_⟩
     · have:=(World.ownsRow.lt x1 _ e).1;omega
     · have h1:=(World.ownsRow.lt x1 _ e).1
       have h2:=HBB.out b (x5 b (t5 b hb))
       omega
     · have:=congrArg (List.drop 1) hdrop
       rw [List.drop_drop] at this
       simpa [Nat.add_comm] using this.symm
     · exact (x3.trans t3 fun _ _ e=>e).trans fq fun k hk e=>absurd (World.ownsRow.lt x1 _ e).1 (by omega)
     · omega
  · have hie:n=i:=by omega
    subst hie
    have hge:¬ (n:Int)<(n:Int):=by omega
    go_wp2
    go_ret
    obtain ⟨r1,r2,r3,r4,r5,r6,r7⟩:=HR.out
    exact ⟨_,p',bv',bk',rfl,r1,r2,r3,r4,r5,r6,r7⟩
structure JC (dep:Nat→List Nat) (val:Nat→Option Value) (f:Nat→Value→Value) (S:Nat) (W0:World) (R:Value→World→Prop) (p:Nat→Bool) (vs:Nat→Value) (W:World):Prop where
 v:∀ i x,i<S→val i=some x→p i=true→vs i=x
 n:p S=false→W=W0∧∀ j,S<j→p j=false
 s:p S=true→(∀ k,k<S→p k=true)∧R (vs S) W
 a:∀ i,S<i→p i=true→vs i=f i (vs S)
 c:∀ i j,i<S→j∈dep i→p i=true→p j=true
section JC
variable {dep:Nat→List Nat} {val:Nat→Option Value} {f:Nat→Value→Value} {S:Nat} {W0:World} {R:Value→World→Prop} {p:Nat→Bool} {vs:Nat→Value} {W:World}
theorem JC.start (dep:Nat→List Nat) (val:Nat→Option Value) (f:Nat→Value→Value) (S:Nat) (W0:World) (R:Value→World→Prop):JC dep val f S W0 R (fun _=>false) (fun _=>undef) W0:=⟨fun _ _ _ _ h=>(by cases h),fun _=>⟨rfl,fun _ _=>rfl⟩,fun h=>(by cases h),fun _ _ h=>(by cases h),fun _ _ _ _ h=>(by cases h)⟩
theorem JC.same (h:JC dep val f S W0 R p vs W) (i:Nat) (hi:i<S) (hpi:p i=false):W=W0:=by
 refine (h.n ?_).1
 cases e:p S with
 | false=>rfl
 | true=>have:=(h.s e).1 i hi;rw [hpi] at this;cases this
theorem JC.up (h:JC dep val f S W0 R p vs W) (i:Nat) (hi:S<i) (hpi:p i=true):p S=true:=by
 cases e:p S with
 | true=>rfl
 | false=>have:=(h.n e).2 i hi;rw [hpi] at this;cases this
theorem JC.nS (h:JC dep val f S W0 R p vs W) (i:Nat) (hi:i<S) (hpi:p i=false):p S=false:=by
 cases e:p S with
 | false=>rfl
 | true=>have:=(h.s e).1 i hi;rw [hpi] at this;cases this
theorem JC.pure (h:JC dep val f S W0 R p vs W) (i:Nat) {x:Value} (hi:i<S) (hpi:p i=false) (hx:val i=some x) (hd:∀ j,j∈dep i→p j=true):JC dep val f S W0 R (fun j=>p j || j == i) (fun j=>if j=i then x else vs j) W:=by
 have hS:p S=false:=by
  cases e:p S with
  | false=>rfl
  | true=>have:=(h.s e).1 i hi;rw [hpi] at this;cases this
 have e:(S == i)=false:=by simp;omega
 refine ⟨fun j y hj hy hp => ?_,fun hp=>⟨(h.n hS).1,fun j hj => ?_⟩,fun hp => ?_,fun j hj hp => ?_,fun j k hj hk hp => ?_⟩
 · by_cases ej:j=i
   · subst ej;rw [if_pos rfl];rw [hx] at hy;injection hy
   · rw [if_neg ej];exact h.v j y hj hy (by simpa [ej] using hp)
 · have:(j == i)=false:=by simp;omega
   rw [this,Bool.or_false];exact (h.n hS).2 j hj
 · rw [e,Bool.or_false,hS] at hp;cases hp
 · have e2:(j == i)=false:=by simp;omega
   rw [e2,Bool.or_false,(h.n hS).2 j hj] at hp;cases hp
 · by_cases ej:j=i
   · subst ej;simp [hd k hk]
   · simp [h.c j k hj hk (by simpa [ej] using hp)]
theorem JC.called (h:JC dep val f S W0 R p vs W) (hS:p S=false) (hall:∀ k,k<S→p k=true) {x:Value} {W':World} (hr:R x W'):JC dep val f S W0 R (fun j=>p j || j == S) (fun j=>if j=S then x else vs j) W':=by
 refine ⟨fun j y hj hy hp => ?_,fun hp => ?_,fun _=>⟨fun k hk=>by simp [hall k hk],by rw [if_pos rfl];exact hr⟩,fun j hj hp => ?_,fun j k hj hk hp=>(by have ej:j≠S:=(by omega);simp [h.c j k hj hk (by simpa [ej] using hp)])⟩
 · have ej:j≠S:=by omega
   rw [if_neg ej];exact h.v j y hj hy (by simpa [ej] using hp)
 · simp at hp
 · have e2:(j == S)=false:=by simp;omega
   rw [e2,Bool.or_false,(h.n hS).2 j hj] at hp;cases hp
theorem JC.after (h:JC dep val f S W0 R p vs W) (i:Nat) (hi:S<i) {k:Nat} (hk:p k=true) (hkS:S≤k:=by decide):JC dep val f S W0 R (fun j=>p j || j == i) (fun j=>if j=i then f i (vs S) else vs j) W:=by
 have hS:p S=true:=by
  rcases Nat.lt_or_ge S k with e | e
  · exact h.up k e hk
  · have:k=S:=by omega
    rw [←this];exact hk
 have eS:S≠i:=by omega
 refine ⟨fun j y hj hy hp => ?_,fun hp => ?_,fun _=>⟨fun k hk=>by simp [(h.s hS).1 k hk],by rw [if_neg eS];exact (h.s hS).2⟩,fun j hj hp => ?_,fun j k hj hk hp=>by have ej:j≠i:=(by omega);simp [h.c j k hj hk (by simpa [ej] using hp)]⟩
 · have ej:j≠i:=by omega
   rw [if_neg ej];exact h.v j y hj hy (by simpa [ej] using hp)
 · rw [hS] at hp;simp at hp
 · rw [if_neg eS]
   by_cases ej:j=i
   · subst ej;rw [if_pos rfl]
   · rw [if_neg ej];exact h.a j hj (by simpa [ej] using hp)
end JC
theorem dep_all {l:List Nat} {P p:Nat→Bool} (hdep:∀ j,P j=true→p j=true) (h:l.all P=true):∀ j,j∈l→p j=true:=fun j hj=>hdep j (List.all_eq_true.1 h j hj)
def bkD (us:List Int):Nat→List (Int × Int)
 | 0=>[]
 | m+1=>((m:Int),us.getD m 0)::bkD us m
theorem fr_kall {F:Nat→Prop} {b:Nat} {X Y:World} (h:KAll F b X Y):Fr X Y (fun k=>¬ F k):=⟨h.bel.os,h.bel.tape,h.bel.output,h.bel.size,fun k hk hn=>by
 have hF:F k:=Classical.not_not.1 hn
 have e:X.heap[k]? = some X.heap[k]:=Array.getElem?_eq_getElem hk
 rw [e]
 exact h.same k _ hF e⟩
def BkF (bx:Nat) (v:Value) (k:Nat):Prop:=k=bx∨v.ownBlock=some k
def encB (x:Int × Int):Array Value:=#[.int .i64 x.1,.int .i64 x.2]
set_option maxHeartbeats 4000000 in
theorem back_seqF {V:World} {bx:Nat} {v:Value} {us:List Int} (hbx:V.heap[bx]? = some (.cells #[v] 72 (0,0))) (hu:IR V v us) (hub:us.length≤1000000) {b:Nat} (n l:Nat) (hn:1≤n) :
 SeqF n 80 #[] #[.pointer (some ⟨bx,0,none⟩)] encB (bkD us us.length) b (BkF bx v) (fun _ _=>True) V l:=by
 intro J Jx hJ hJx hY h0
 obtain ⟨m0,hm0⟩:∃ m,us.length=m:=⟨_,rfl⟩
 obtain ⟨a,c,hv,_⟩:=id hu
 rw [hm0] at hv hub ⊢
 rw [hm0] at hY
 subst hv
 have HM:=Hid.mk' hm0
 have hm0I:(m0:Int)≤1000000:=by omega
 have HH:=Hid.mk' (And.intro hbx hu)
 have c0:V.cell? ⟨bx,0,none⟩=some (.slice a m0 c):=by rw [cell_of hbx];rfl
 have HHY:=Hid.mk' hY
 clear hbx hu hY hm0
 refine callsIn_of_wp Tryd.func80 rfl trivial ?_ rfl
 simp only [Tryd.ntmps80,List.size_toArray,List.length_cons,List.length_nil,Nat.reduceAdd,Nat.reduceSub,Array.replicate_succ,Array.replicate_zero,List.push_toArray,List.append_toArray,List.nil_append,List.cons_append]
 gi_wp2_with fail
 gi_loopg [3] (m0+1) (fun f s3 wr=>∃ m:Nat,s3 = .int .i64 ((m:Int) - 1)∧m≤m0∧m+1≤f∧Hid (∃ pre,bkD us m0=pre++bkD us m∧J pre (BkF bx (.slice a m0 c)) wr∧wr.heap[bx]? = some (.cells #[.slice a m0 c] 72 (0,0))∧IR wr (.slice a m0 c) us))
 case atStart=>exact ⟨m0,rfl,Nat.le_refl _,by omega,[],rfl,h0,HH.out.1,HH.out.2⟩
 case round=>
  obtain ⟨m,rfl,hmm,hmf,HR⟩:=hrel
  obtain ⟨pre,hpre,hJr,hbx,hir⟩:=HR.out
  have hmI:(m:Int)≤1000000:=by omega
  cases m with
  | zero=>
   have HK:Hid (J (bkD us m0) (BkF bx (.slice a m0 c)) wr):=by
    have e:bkD us m0=pre:=by rw [hpre];simp [bkD]
    show J _ _ _
    rw [e];exact hJr
   clear hpre hJr hbx hir HR
   gi_wp2
   go_end0
   exact ⟨⟨_,rfl⟩,.inl ⟨_,HK.out,trivial⟩⟩
  | succ m=>
   have hge:(0:Int)≤(m:Int):=by omega
   have hlt:(m:Int)<(m0:Int):=by omega
   have hmi:((m+1:Nat):Int) - 1=(m:Int):=by omega
   rw [hmi]
   have d0:wr.cell? ⟨bx,0,none⟩=some (.slice a m0 c):=by rw [cell_of hbx];rfl
   obtain ⟨g,o,hae,du⟩:=ir_cell hir (j:=m) (by rw [HM.out];omega)
   subst hae
   obtain ⟨u,hu⟩:∃ u,us.getD m 0=u:=⟨_,rfl⟩
   rw [hu] at du
   have hxf:pre++[((m:Int),u)] <+: bkD us m0:=by rw [hpre,←hu];exact ⟨bkD us m,by simp [bkD]⟩
   obtain ⟨fn,tmps,assign,body,hy,hR⟩:=HHY.out pre ((m:Int),u) _ wr hJr hxf
   dsimp only [encB] at hy
   have HRR:=Hid.mk' hR
   have HP:Hid (bkD us m0=(pre++[((m:Int),u)])++bkD us m∧pre++[((m:Int),u)] <+: bkD us m0∧wr.heap[bx]? = some (.cells #[.slice (some ⟨g,o,none⟩) m0 c] 72 (0,0))∧IR wr (.slice (some ⟨g,o,none⟩) m0 c) us):=⟨by rw [hpre,←hu];simp [bkD],hxf,hbx,hir⟩
   clear hR hpre hJr hbx hir hxf hu HR
   gi_wp2
   refine HRR.out.mono ?_
   rintro e W3 (⟨rfl,hJ3,hk3⟩ | ⟨rfl,hJx3,hk3⟩)
   · gi_wp2
     gi_roundg (m+1)
     case measure=>omega
     case rel=>
      obtain ⟨p1,p2,p3,p4⟩:=HP.out
      exact ⟨m,rfl,by omega,Nat.le_refl _,_,p1,hJ3,hk3.same _ _ (.inl rfl) p3,p4.fr (fr_kall hk3) fun b hb hn=>hn (.inr hb)⟩
   · gi_wp2
     refine bodyPost_ret (results_none rfl _ _ _) rfl ?_
     exact ⟨⟨_,rfl⟩,.inr ⟨_,_,⟨HP.out.2.1,by simp⟩,hJx3⟩⟩
theorem backward_any (a:Option Addr) (n c:Nat) (W:World):Calls Tryd.prog 61 #[.slice a n c] W fun e w'=>e = .returned (.func (.func 80) #[] #[.pointer (some ⟨W.heap.size,0,none⟩)])∧w'=W.alloc (.cells #[.slice a n c] 72):=by
 go_enter Tryd.func61,Tryd.ntmps61
 go_wp2
 go_ret
 exact ⟨rfl,rfl⟩
theorem wpOpIn_step {F:Fence} {n:Nat} {P:Program} {ops:Array Oper} {Q:Exit→Act→World→Prop} {i:Nat} {o:Oper} {a:Act} {w:World} {K:Act→World→Prop} (ho:ops[i]? = some o) (h:∀ K':Act→World→Prop,(∀ a w,K a w→K' a w)→if Region.wanted o (yielded ops a.tmps)=true then o.wpIn F n P a w K' Q else (∀ f,o.about P w a.eval=some f→F.fn f)∧K' (a.put o.dst undef) w):wpOpIn F n P ops Q i K a w:=by
 unfold wpOpIn
 simp only [ho]
 exact h K fun _ _ h=>h
def IStepI (F:Fence) (n:Nat) (P:Program) (ops:Array Oper) (Q:Exit→Act→World→Prop) (J:(Nat→Bool)→(Nat→Value)→World→Prop) (a0:Act) (i:Nat) (o:Oper):Prop:=
 ∀ (a:Act) (w:World) (p:Nat→Bool) (vs:Nat→Value),J p vs w→(∀ j,(o.after.any fun e=>Region.binds .any e && e.on == j)=true→p j=true)→p i=false→(∀ (j:Nat) (oj:Oper) (d:Tmp),p j=true→ops[j]? = some oj→oj.dst=some d→a.tmps.getD d undef=vs j)→(∀ d,(ops.all fun p => !decide (p.dst=some d))=true→a.tmps.getD d undef=a0.tmps.getD d undef) →
  ∀ K:Act→World→Prop,(∀ v w',J (fun j=>p j || j == i) (fun j=>if j=i then v else vs j) w'→K (a.put o.dst v) w')→if Region.wanted o (yielded ops a.tmps)=true then o.wpIn F n P a w K Q else (∀ f,o.about P w a.eval=some f→F.fn f)∧K (a.put o.dst undef) w
def IStepsI (F:Fence) (n:Nat) (P:Program) (ops:Array Oper) (Q:Exit→Act→World→Prop) (J:(Nat→Bool)→(Nat→Value)→World→Prop) (a0:Act):List Oper→Nat→Prop
 | [],_=>True
 | o::l,k=>IStepI F n P ops Q J a0 k o∧IStepsI F n P ops Q J a0 l (k+1)
theorem istepsI_at {F:Fence} {n:Nat} {P:Program} {ops:Array Oper} {Q:Exit→Act→World→Prop} {J:(Nat→Bool)→(Nat→Value)→World→Prop} {a0:Act} : ∀ (l:List Oper) (k:Nat),IStepsI F n P ops Q J a0 l k→∀ (i:Nat) (o:Oper),l[i]? = some o→IStepI F n P ops Q J a0 (k+i) o
 | [],_,_,i,o,h=>by simp at h
 | x::l,k,hs,i,o,h=>by
  cases i with
  | zero=>simp at h;subst h;exact hs.1
  | succ i=>
   have:=istepsI_at l (k+1) hs.2 i o (by simpa using h)
   rwa [show k+1+i=k+(i+1) by omega] at this
theorem wpAnyIn_inv {F:Fence} {n:Nat} {P:Program} {ops:Array Oper} {Q:Exit→Act→World→Prop} {J:(Nat→Bool)→(Nat→Value)→World→Prop} {a0:Act} (hd:Once ops) (he:Early ops) (hsz:∀ (i:Nat) (o:Oper) (d:Tmp),ops[i]? = some o→o.dst=some d→d<a0.tmps.size)
 (hst:∀ (i:Nat) (o:Oper),ops[i]? = some o→IStepI F n P ops Q J a0 i o) (hfin:∀ vs w,J (fun j=>decide (j<ops.size)) vs w→Q .normal (putL vs ops.toList 0 a0) w) :
 ∀ (fuel:Nat) (listed:Array Bool) (w:World) (l m:List Nat) (vs:Nat→Value),m.length=fuel→(l++m).Perm (List.range ops.size)→(∀ i,i<ops.size→listed.getD i true=decide (i∈l))→listed.size=ops.size→J (fun j=>decide (j∈l)) vs w →
  wpAnyIn F n P .any ops Q fuel listed (l.foldl (put1 ops vs) a0) w:=by
 have fin:∀ (l m:List Nat) (vs:Nat→Value) (w:World),m=[]→(l++m).Perm (List.range ops.size)→J (fun j=>decide (j∈l)) vs w→Q .normal (l.foldl (put1 ops vs) a0) w:=by
  intro l m vs w hm hp hj
  subst hm
  rw [List.append_nil] at hp
  rw [hp.foldl_eq' (fun x _ y _ z=>put1_comm hd x y z)]
  have:List.range ops.size=List.range' 0 ops.toList.length:=by rw [Array.length_toList,List.range_eq_range']
  rw [this,fold_range vs ops ops.toList 0 a0 (fun j=>by simp)]
  refine hfin vs w ?_
  have e:(fun j=>decide (j<ops.size))=fun j=>decide (j∈l):=by
   funext j
   rw [decide_eq_decide,hp.mem_iff,List.mem_range]
  rw [e]
  exact hj
 have nodup:∀ (l m:List Nat),(l++m).Perm (List.range ops.size)→(l++m).Nodup:=fun l m hp=>hp.nodup_iff.2 List.nodup_range
 have stuck:∀ (l m:List Nat) (listed:Array Bool),(l++m).Perm (List.range ops.size)→(∀ i,i<ops.size→listed.getD i true=decide (i∈l))→listed.size=ops.size→Region.ready .any ops listed=[]→m=[]:=by
  intro l m listed hp hl hs hr
  have all:∀ i,i<ops.size→i∈l:=by
   intro i
   induction i using Nat.strongRecOn with
   | _ i ih=>
    intro hi
    refine Classical.byContradiction fun hn => ?_
    have hmem:i∈Region.ready .any ops listed:=by
     rw [mem_ready]
     refine ⟨by rw [hl i hi];simp [hn],ops[i],by simp [hi],fun e hme hb => ?_⟩
     have hlt:=he i ops[i] (by simp [hi]) e hme hb
     have h1:=ih e.on hlt (by omega)
     have h2:=hl e.on (by omega)
     rw [decide_eq_true h1] at h2
     have h3:e.on<listed.size:=by omega
     simpa [h3] using h2
    rw [hr] at hmem
    cases hmem
  cases m with
  | nil=>rfl
  | cons x m=>
   have hx:x<ops.size:=by
    have:x∈List.range ops.size:=hp.mem_iff.1 (by simp)
    simpa using this
   have h1:=all x hx
   have h2:=nodup l (x::m) hp
   rw [List.nodup_append] at h2
   exact absurd rfl (h2.2.2 x h1 x (by simp))
 intro fuel
 induction fuel with
 | zero=>
  intro listed w l m vs hm hp hl hs hj
  have hm0:=List.eq_nil_of_length_eq_zero hm
  refine ⟨?_,fin l m vs w hm0 hp hj⟩
  rw [List.eq_nil_iff_forall_not_mem]
  intro j hjr
  rw [mem_ready] at hjr
  obtain ⟨h1,o,ho,_⟩:=hjr
  have hlt:=(Array.getElem?_eq_some_iff.1 ho).1
  rw [hl j hlt] at h1
  subst hm0
  rw [List.append_nil] at hp
  exact absurd (hp.mem_iff.2 (by simpa using hlt)) (of_decide_eq_false h1)
 | succ fuel ih=>
  intro listed w l m vs hm hp hl hs hj
  refine ⟨fun hr=>fin l m vs w (stuck l m listed hp hl hs hr) hp hj,fun i hir => ?_⟩
  rw [mem_ready] at hir
  obtain ⟨h1,o,ho,hall⟩:=hir
  have hlt:=(Array.getElem?_eq_some_iff.1 ho).1
  rw [hl i hlt] at h1
  have hil:i ∉ l:=of_decide_eq_false h1
  have him:i∈m:=by
   have:i∈l++m:=hp.mem_iff.2 (by simpa using hlt)
   rw [List.mem_append] at this
   exact this.resolve_left hil
  refine wpOpIn_step ho (fun K hK=>hst i o ho _ w (fun j=>decide (j∈l)) vs hj ?_ (decide_eq_false hil) ?_ ?_ K (fun v w' hv=>hK _ _ ?_))
  · intro j hja
    rw [Array.any_eq_true'] at hja
    obtain ⟨e,hme,h2⟩:=hja
    simp only [Bool.and_eq_true,beq_iff_eq] at h2
    obtain ⟨hb,rfl⟩:=h2
    have h3:=hall e hme hb
    have hlt2:=he i o ho e hme hb
    have h4:=hl e.on (by omega)
    have h5:e.on<listed.size:=by omega
    have h6:listed.getD e.on true=true:=by simpa [h5] using h3
    rw [h6] at h4
    exact h4.symm
  · intro j oj d hjl hoj hod
    exact fold_get hd (of_decide_eq_true hjl) hoj hod (hsz j oj d hoj hod)
  · intro d hfree
    refine fold_other (fun k p hp2 h2 => ?_) a0
    rw [Array.all_eq_true_iff_forall_mem] at hfree
    have:=hfree p (Array.mem_of_getElem? hp2)
    simp [h2] at this
  · let us:Nat→Value:=fun j=>if j=i then v else vs j
    have hus:∀ j∈l,us j=vs j:=fun j hjl=>by
     show (if j=i then v else vs j)=vs j
     rw [if_neg (fun e=>hil (by rw [←e];exact hjl))]
    have hui:us i=v:=by show (if i=i then v else vs i)=v;rw [if_pos rfl]
    have e1:(l.foldl (put1 ops vs) a0).put o.dst v=(l++[i]).foldl (put1 ops us) a0:=by
     rw [List.foldl_append,fold_congr hus]
     show _=put1 ops us _ i
     unfold put1
     rw [ho,hui]
    rw [e1]
    refine ih (listed.setIfInBounds i true) w' (l++[i]) (m.erase i) us (by rw [List.length_erase_of_mem him];omega) ?_ ?_ (by simpa using hs) ?_
    · rw [List.append_assoc]
      exact (List.Perm.append_left l (List.perm_cons_erase him).symm).trans hp
    · intro j hjn
      by_cases hji:j=i
      · subst hji
        have h5:j<listed.size:=by omega
        simp [h5]
      · have h5:j<listed.size:=by omega
        have:=hl j hjn
        simp only [Array.getD_eq_getD_getElem?] at this ⊢
        rw [Array.getElem?_setIfInBounds_ne (fun e=>hji e.symm),this]
        simp [hji]
    · have e2:(fun j=>decide (j∈l++[i]))=fun j=>decide (j∈l) || j == i:=by
       funext j
       by_cases hji:j=i
       · subst hji;simp
       · simp [hji]
      rw [e2]
      exact hv
theorem wpIn_region_inv {F:Fence} {n:Nat} {P:Program} {id:Nat} {l:List Oper} {Q:Exit→Act→World→Prop} {a0:Act} {w0:World} (hm:P.follows .mixedOrders=true) (h1:onceB l=true) (h2:earlyB 0 l=true) (h3:(l.all fun o=>match o.dst with | none=>true | some d=>decide (d<a0.tmps.size))=true)
 (J:(Nat→Bool)→(Nat→Value)→World→Prop) (h0:J (fun _=>false) (fun _=>undef) w0.drew) (hst:IStepsI F n P l.toArray Q J a0 l 0) (hfin:∀ vs w,J (fun j=>decide (j<l.length)) vs w→Q .normal (putL vs l 0 a0) w):(Code.region id l.toArray true).wpIn F n P Q a0 w0:=by
 refine wpIn_region_any hm ?_
 have h:=wpAnyIn_inv (F:=F) (n:=n) (P:=P) (ops:=l.toArray) (Q:=Q) (J:=J) (a0:=a0) (once_of h1) (early_of h2) (fun i o d ho hod=>by
  have:=List.all_eq_true.1 h3 o (List.mem_of_getElem? (by simpa using ho))
  rw [hod] at this
  exact of_decide_eq_true this) (fun i o ho=>by
  have:=istepsI_at l 0 hst i o (by simpa using ho)
  rwa [Nat.zero_add] at this) (fun vs w hj=>hfin vs w (by simpa using hj))
  l.toArray.size (Array.replicate l.toArray.size false) w0.drew [] (List.range l.toArray.size) (fun _=>undef) (by simp) (by simp) (fun i hi=>by simp at hi;simp [hi]) (by simp) (by simpa using h0)
 exact h
structure JB (X:World) (tb base:Nat) (bv:Value) (bk:List Int) (u:Int) (cs:Value→Array Value) (val:Nat→Option Value) (p:Nat→Bool) (vs:Nat→Value) (W:World):Prop where
 v:∀ i x,val i=some x→p i=true→vs i=x
 f:Fr X W (fun k=>bv.ownBlock=some k∨k=tb)
 n:p 10=false→W.heap[tb]? = some (.cells (cs bv) 98 (0,0))
 e6:p 6=true→∃ g,vs 6 = .slice (some ⟨g,0,none⟩) 1 1∧X.heap.size≤g∧W.heap[g]? = some (.cells #[.int .i64 u] 3 (0,0))
 s0:p 7=false→OwnI W base bv bk
 s1:p 7=true→OwnI W base (vs 7) (bk++[u])∧∀ k,(vs 7).ownBlock=some k→bv.ownBlock=some k∨X.heap.size≤k
 d4:p 7=true→p 4=true∧p 6=true
 d7:p 10=true→p 7=true
 t:p 10=true→W.heap[tb]? = some (.cells (cs (vs 7)) 98 (0,0))
section JB
variable {X:World} {tb base:Nat} {bv:Value} {bk:List Int} {u:Int} {cs:Value→Array Value} {val:Nat→Option Value} {p:Nat→Bool} {vs:Nat→Value} {W:World}
theorem JB.put (h:JB X tb base bv bk u cs val p vs W) (i:Nat) {x:Value} (hx:val i=some x) (h6:i≠6:=by decide) (h7:i≠7:=by decide) (h10:i≠10:=by decide):JB X tb base bv bk u cs val (fun j=>p j || j == i) (fun j=>if j=i then x else vs j) W:=by
 have e6:((6:Nat) == i)=false:=by simp;omega
 have e7:((7:Nat) == i)=false:=by simp;omega
 have e10:((10:Nat) == i)=false:=by simp;omega
 refine ⟨fun j y hy hp => ?_,h.f,fun hp=>h.n ?_,fun hp => ?_,fun hp=>h.s0 ?_,fun hp => ?_,fun hp => ?_,fun hp => ?_,fun hp => ?_⟩
 · by_cases ej:j=i
   · subst ej;rw [if_pos rfl];rw [hx] at hy;injection hy
   · rw [if_neg ej];exact h.v j y hy (by simpa [ej] using hp)
 · simpa [e10] using hp
 · rw [if_neg (Ne.symm h6)];exact h.e6 (by simpa [e6] using hp)
 · simpa [e7] using hp
 · rw [if_neg (Ne.symm h7)];exact h.s1 (by simpa [e7] using hp)
 · have:=h.d4 (by simpa [e7] using hp)
   exact ⟨by simp [this.1],by simp [this.2]⟩
 · have:=h.d7 (by simpa [e10] using hp)
   simp [this]
 · rw [if_neg (Ne.symm h7)];exact h.t (by simpa [e10] using hp)
theorem JB.no10 (h:JB X tb base bv bk u cs val p vs W) (h7:p 7=false):p 10=false:=by
 cases e:p 10 with
 | false=>rfl
 | true=>have:=h.d7 e;rw [h7] at this;cases this
theorem JB.no7 (h:JB X tb base bv bk u cs val p vs W) (h4:p 4=false∨p 6=false):p 7=false:=by
 cases e:p 7 with
 | false=>rfl
 | true=>
  have:=h.d4 e
  rcases h4 with h4 | h4
  · rw [h4] at this;cases this.1
  · rw [h4] at this;cases this.2
theorem JB.six (h:JB X tb base bv bk u cs val p vs W) (hp6:p 6=false) (hx:val 6=none):JB X tb base bv bk u cs val (fun j=>p j || j == 6) (fun j=>if j=6 then .slice (some ⟨W.heap.size,0,none⟩) 1 1 else vs j) (W.alloc (.cells #[.int .i64 u] 3)):=by
 have h7:=h.no7 (.inr hp6)
 have h10:=h.no10 h7
 have hg:Grown W (W.alloc (.cells #[.int .i64 u] 3)):=(Grown.refl W).alloc _
 have hb:=h.n h10
 refine ⟨fun j y hy hp => ?_,h.f.trans (fr_grown hg _) fun _ _ e=>e,fun _=>(hg.below.block _ (blk_lt hb)).trans hb,fun _=>⟨_,by rw [if_pos rfl],h.f.size,heap_alloc_new _ _⟩,fun _=>(h.s0 h7).alloc _,fun hp => ?_,fun hp => ?_,fun hp => ?_,fun hp => ?_⟩
 · by_cases ej:j=6
   · subst ej;rw [hx] at hy;cases hy
   · rw [if_neg ej];exact h.v j y hy (by simpa [ej] using hp)
 · simp [h7] at hp
 · simp [h7] at hp
 · simp [h10] at hp
 · simp [h10] at hp
theorem JB.seven (h:JB X tb base bv bk u cs val p vs W) (hp7:p 7=false) (hp4:p 4=true) (hp6:p 6=true) (hx:val 7=none) (_htb:tb<X.heap.size) (hne:∀ k,bv.ownBlock=some k→k<X.heap.size∧k≠tb) {v':Value} {w':World} (q1:OwnI w' base v' (bk++[u])) (q2:W.grownBy w' bv.ownBlock) (q3:v'.ownBlock=bv.ownBlock∨v'.ownBlock=some W.heap.size):JB X tb base bv bk u cs val (fun j=>p j || j == 7) (fun j=>if j=7 then v' else vs j) w':=by
 have h10:=h.no10 hp7
 have hb:=h.n h10
 have fq:=fr_by q2
 obtain ⟨g,hg1,hg2,hg3⟩:=h.e6 hp6
 refine ⟨fun j y hy hp => ?_,h.f.trans fq fun k _ e => .inl e,fun _=>(fq.block _ (blk_lt hb) fun e=>(hne _ e).2 rfl).trans hb,fun _=>⟨g,by rw [if_neg (by decide)];exact hg1,hg2,(fq.block _ (blk_lt hg3) fun e=>by have:=(hne _ e).1;omega).trans hg3⟩,fun hp => ?_,fun _ => ?_,fun _=>⟨by simp [hp4],by simp [hp6]⟩,fun hp => ?_,fun hp => ?_⟩
 · by_cases ej:j=7
   · subst ej;rw [hx] at hy;cases hy
   · rw [if_neg ej];exact h.v j y hy (by simpa [ej] using hp)
 · simp at hp
 · rw [if_pos rfl]
   refine ⟨q1,fun k hk => ?_⟩
   rcases q3 with e | e
   · rw [e] at hk;exact .inl hk
   · rw [e] at hk;injection hk with hk;have:=h.f.size;exact .inr (by omega)
 · simp [h10] at hp
 · simp [h10] at hp
theorem JB.ten (h:JB X tb base bv bk u cs val p vs W) (hp7:p 7=true) (hp10:p 10=false) (hx:val 10=none) (htb:tb<X.heap.size) (hne:∀ k,bv.ownBlock=some k→k<X.heap.size∧k≠tb) (hcs:∀ x y,(cs x).setIfInBounds 2 y=cs y) {z:Value} : JB X tb base bv bk u cs val (fun j=>p j || j == 10) (fun j=>if j=10 then z else vs j) (W.setCell ⟨tb,2,none⟩ (vs 7)):=by
 have hb:=h.n hp10
 have fq:=fr_set W tb 2 (vs 7)
 obtain ⟨s1,s2⟩:=h.s1 hp7
 have hnt:∀ k,(vs 7).ownBlock=some k→k≠tb:=fun k hk=>by
  rcases s2 k hk with e | e
  · exact (hne k e).2
  · omega
 refine ⟨fun j y hy hp => ?_,h.f.trans fq fun k _ e => .inr e,fun hp => ?_,fun hp => ?_,fun hp => ?_,fun _ => ?_,fun hp => ?_,fun _=>by simp [hp7],fun _ => ?_⟩
 · by_cases ej:j=10
   · subst ej;rw [hx] at hy;cases hy
   · rw [if_neg ej];exact h.v j y hy (by simpa [ej] using hp)
 · simp at hp
 · obtain ⟨g,hg1,hg2,hg3⟩:=h.e6 (by simpa using hp)
   exact ⟨g,by rw [if_neg (by decide)];exact hg1,hg2,(fq.block _ (blk_lt hg3) fun e=>by have e:g=tb:=e;omega).trans hg3⟩
 · simp [hp7] at hp
 · rw [if_neg (by decide)]
   exact ⟨own_fr s1 fq fun b hb e=>hnt b hb e,s2⟩
 · have:=h.d4 hp7
   exact ⟨by simp [this.1],by simp [this.2]⟩
 · rw [if_neg (by decide),set_heap hb,hcs]
end JB
theorem op_appendIn {F:Fence} {n:Nat} {o:Oper} {a:Act} {w w':World} {v':Value} {K:Act→World→Prop} {Q:Exit→Act→World→Prop} {s x:Operand} {t:TypeId} (ho:o.op = .call { callee := .builtin .append,args:=#[s,x],argTypes:=#[t,t] }) {u y:Value} (hs:a.eval s=u) (hx:a.eval x=y) (hr:(Builtin.append_ #[t,t] o.type #[u,y]).run Tryd.prog w = .ok v' w') (h:K (a.put o.dst v') w'):Oper.wpIn F n Tryd.prog o a w K Q:=by
 unfold Oper.wpIn
 refine ⟨by simp [Oper.about,ho,resolve,Target.leads,Sem.run_pure],?_⟩
 rw [Oper.semAt_plain F _ _ (by rw [ho];intro c hc';cases hc')]
 simp only [execOp,ho,resolve,invoke,builtin,Sem.run_bind,Sem.run_pure,Result.andThen_ok,List.map_toArray,List.map_cons,List.map_nil,hs,hx,hr]
 exact h
def FlI (W:World) (tb base:Nat) (rv:Value) (s:ByteArray) (p:Nat) (bv:Value) (bk:List Int) (D:Int) (h:Nat) (pre:List (Int × Int)) (F:Nat→Prop) (X:World):Prop:=
 ∃ bvx,TK X tb base rv s p bvx (bk++pre.map Prod.snd) D∧X.heap[W.heap.size]? = some (.cells #[.pointer (some ⟨tb,0,none⟩)] 123 (0,0))∧Fr W X (fun k=>k=tb∨bv.ownBlock=some k)∧(∀ k,F k→W.heap.size<k∧k<X.heap.size)∧∀ b,bvx.ownBlock=some b→(bv.ownBlock=some b∨W.heap.size<b)∧¬ F b∧b≠h∧b≠h+1
theorem FlI.stab {W:World} {tb base:Nat} {rv:Value} {s:ByteArray} {p:Nat} {bv:Value} {bk:List Int} {D:Int} {h:Nat} (htb:tb<W.heap.size) (hh:W.heap.size<h):StabI h (FlI W tb base rv s p bv bk D h):=by
 rintro pre F F' X Y ⟨bvx,k1,k2,k3,k4,k5⟩ z0 z1 hf hn hlt
 have nF:∀ k,k<X.heap.size→¬ F k→¬ F' k:=fun k hk hn' hf'=>by rcases hn k hf' with e | e;exact hn' e;omega
 have l2:=blk_lt k2
 refine ⟨bvx,k1.fr hf (fun e => ?_) (fun b hb e => ?_),(hf.block _ l2 fun e => ?_).trans k2,k3.trans hf fun k hk e => ?_,fun k hk=>⟨?_,hlt (fun k hk=>(k4 k hk).2) k hk⟩,fun b hb=>⟨(k5 b hb).1,nF _ (World.ownsRow.lt k1.own b hb).2 (k5 b hb).2.1,(k5 b hb).2.2⟩⟩
 · rcases e with e | e
   · have:=(k4 _ e).1;omega
   · omega
 · rcases e with e | e
   · exact (k5 b hb).2.1 e
   · exact (k5 b hb).2.2.2 e
 · rcases e with e | e
   · have:=(k4 _ e).1;omega
   · omega
 · rcases e with e | e
   · have:=(k4 _ e).1;omega
   · omega
 · rcases hn k hk with e | e
   · exact (k4 _ e).1
   · have:=blk_lt k2;omega
theorem FlI.pushed {W X W':World} {tb base:Nat} {rv:Value} {s:ByteArray} {p:Nat} {bv bvx:Value} {bk bkx:List Int} {D:Int} {h:Nat} {F:Nat→Prop} {u:Int} {val:Nat→Option Value} {vs:Nat→Value} (htb:tb<W.heap.size) (hh:W.heap.size<h) (hX:h+2≤X.heap.size) (_z0:¬ F h) (_z1:¬ F (h+1))
 (k1:TK X tb base rv s p bvx bkx D) (k2:X.heap[W.heap.size]? = some (.cells #[.pointer (some ⟨tb,0,none⟩)] 123 (0,0))) (k3:Fr W X (fun k=>k=tb∨bv.ownBlock=some k)) (k4:∀ k,F k→W.heap.size<k∧k<X.heap.size) (k5:∀ b,bvx.ownBlock=some b→(bv.ownBlock=some b∨W.heap.size<b)∧¬ F b∧b≠h∧b≠h+1) (k6:bvx.ownBlock≠some W.heap.size)
 (hJ:JB X tb base bvx bkx u (fun b=>#[rv,.string (s.extract p s.size),b,.int .i64 D]) val (fun j=>decide (j<11)) vs W') {pre:List (Int × Int)} {x:Int × Int} (hu:x.2=u) (hbk:bkx=bk++pre.map Prod.snd):KAll (ZF F h) 0 X W'∧FlI W tb base rv s p bv bk D h (pre++[x]) F W':=by
 obtain ⟨s1,s2⟩:=hJ.s1 rfl
 have hf:=hJ.f
 have hx7:∀ b,(vs 7).ownBlock=some b→b≠tb:=fun b hb e=>by
  rcases s2 b hb with e2 | e2
  · exact k1.ne b e2 e
  · have:=k3.size;omega
 refine ⟨⟨⟨hf.os,hf.tape,hf.output,hf.size,fun k hk=>by omega⟩,fun k o hk ho=>(hf.block k (blk_lt ho) fun e => ?_).trans ho⟩,vs 7,⟨hJ.t rfl,?_,k1.pl,hx7⟩,(hf.block _ (blk_lt k2) fun e => ?_).trans k2,k3.trans hf fun k hk e => ?_,fun k hk=>⟨(k4 k hk).1,Nat.lt_of_lt_of_le (k4 k hk).2 hf.size⟩,fun b hb => ?_⟩
 · rcases e with e | e
   · have:=k5 k e
     rcases hk with hk | hk | hk
     · exact this.2.1 hk
     · exact this.2.2.1 hk
     · exact this.2.2.2 hk
   · rcases hk with hk | hk | hk
     · have:=(k4 k hk).1;omega
     · omega
     · omega
 · have e:bk++(pre++[x]).map Prod.snd=bkx++[u]:=by rw [List.map_append,←List.append_assoc,←hbk];simp [hu]
   rw [e];exact s1
 · rcases e with e | e
   · exact k6 e
   · omega
 · rcases e with e | e
   · rcases (k5 k e).1 with e2 | e2
     · exact .inr e2
     · omega
   · exact .inl e
 · rcases s2 b hb with e | e
   · exact k5 b e
   · exact ⟨.inr (by have:=k3.size;omega),fun hf'=>by have:=(k4 b hf').2;omega,by omega,by omega⟩
def FolQ (W:World) (tb base:Nat) (rv:Value) (s:ByteArray) (bv:Value) (bk:List Int) (n:Nat) (B lf2:List Int) (dn:Int) (e:Ending) (W':World):Prop:=
 ∃ v p' bv' bk',e = .returned v∧TK W' tb base rv s p' bv' bk' dn∧lfO bk' s p'=B++lf2∧Fr W W' (fun k=>k=tb∨bv.ownBlock=some k)∧(∀ b,bv'.ownBlock=some b→bv.ownBlock=some b∨W.heap.size<b)∧bk'.length=bk.length - n+B.length
theorem bkD_snd (B:List Int):∀ n,n≤B.length→(bkD B n).map Prod.snd=(B.take n).reverse
 | 0,_=>by simp [bkD]
 | n+1,h=>by
  rw [bkD,List.map_cons,bkD_snd B n (by omega),List.take_succ_eq_append_getElem (by omega),List.reverse_append,getD_lt (by omega)]
  rfl
theorem bkD_all (B:List Int):(bkD B B.length).map Prod.snd=B.reverse:=by rw [bkD_snd B _ (Nat.le_refl _),List.take_length]
theorem bkD_pre {B:List Int} {pre:List (Int × Int)} (h:pre <+: bkD B B.length):(pre.map Prod.snd).length≤B.length:=by
 have:=(h.map Prod.snd).length_le
 rw [bkD_all] at this
 simpa using this
end Go.Proofs
