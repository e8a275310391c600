/-
  Several texts in one (Nm Fc La).
-/
import Derived.RangeFuncNested
import Derived.RangeFuncBound
import Derived.RangeFuncCalls
import Derived.RangeFuncLeaves
import Derived.Shelf.Abstract
import Derived.Shelf.RegionOpen
import Derived.WalkKit
import Derived.WalkSpells
import Derived.WalkLawsBesides
import Derived.OwnWalkIn
import Derived.TacticsInMore
import Derived.LoopNIn
import Derived.LoopIn
import Derived.BigQuiet
import Derived.RegionIn
import Derived.Deep.QuietTactic
import Derived.Deep.RegionWith
import Derived.Lib.OthersKept
import Derived.Maps.AppendAt
import Derived.Lib.SmallJoins
import Derived.Shelf.SlSortCmp.QuietGrown
import Derived.Test.YtcfcjljapamcoaaGreatDoorMpdx
import Derived.Test.YtcfcjljapamcoaaGreatDoorMgax
import Derived.Test.YtcfcjljapamcoaaGreatDoorMgcx
import Derived.Test.YtcfcjljapamcoaaGreatDoorMgdx
import Derived.Test.YtcfcjljapamcoaaGreatDoorMgex
namespace Go.Proofs
open Go.RowKit Go.Shelf
set_option maxRecDepth 100000
attribute [local go_sem] Oper.semAt_some
attribute [local go_sem ↓] Go.wp_at_zero Go.wp_at_succ
theorem fstR_zero:∀ {rs:List Rl} {k:Nat},(∀ r∈rs,chk r=0)→fstR rs k=(0,0)
 | [],_,_=>rfl
 | q::l,k,h=>by
  unfold fstR
  rw [if_pos (h q (by simp))]
  exact fstR_zero fun r hr=>h r (by simp [hr])
theorem allE_of {rs:List Rl} (hn:rs.length≤256) (h:∀ r∈rs,chk r=0):allE rs=(0,0):=by
 unfold allE
 rw [if_neg (by omega)]
 exact fstR_zero h
theorem bkI_take (rs:List Rl) (m:Nat):∀ k,k≤m→bkI (rs.take m) k=bkI rs k
 | 0,_=>rfl
 | k+1,h=>by
  rw [bkI,bkI,bkI_take rs m k (by omega)]
  congr 2
  rw [List.getElem?_take,if_pos (by omega)]
theorem bkI_pre (rs:List Rl) (m:Nat):∀ k,∃ t,bkI rs (m+k)=bkI rs m++t
 | 0=>⟨[],by simp⟩
 | k+1=>by
  obtain ⟨t,ht⟩:=bkI_pre rs m k
  exact ⟨t++pbs (m+k) ((rs[m+k]?.map backP).getD []),by rw [show m+(k+1)=(m+k)+1 by omega,bkI,ht,List.append_assoc]⟩
theorem wsum_le:∀ (l k:List Pb) (n:Nat),l.length≤k.length→(∀ j (h:j<l.length) (h':j<k.length),l[j].r=k[j].r∧l[j].wt≤k[j].wt)→(∀ b∈k,0≤b.wt)→wsum l n≤wsum k n
 | [],[],n,_,_,_=>Int.le_refl _
 | [],b::k,n,_,h,hp=>by
  have:=wsum_le [] k n (by simp) (fun j h=>by simp at h) fun x hx=>hp x (List.mem_cons_of_mem _ hx)
  have h2:=hp b List.mem_cons_self
  simp only [wsum] at this ⊢
  split <;> omega
 | _::_,[],n,h,_,_=>by simp at h
 | a::l,b::k,n,hl,h,hp=>by
  have ih:=wsum_le l k n (by simpa using hl) (fun j h1 h2=>by have:=h (j+1) (by simpa using h1) (by simpa using h2);simpa using this) fun x hx=>hp x (List.mem_cons_of_mem _ hx)
  have h0:=h 0 (by simp) (by simp)
  simp at h0
  simp only [wsum,h0.1]
  split <;> omega
theorem fstS_take {rs:List Rl} {m i:Nat} (h:i<m):fstS (rs.take m) i=fstS rs i:=by
 unfold fstS
 rw [List.getElem?_take,if_pos h]
structure SolM (rs:List Rl) (us:List (List (Int × Int))) (rk:List Nat) (cs:List Int) (M:Nat) (X:Nat→Int) (Xt:Nat→Int):Prop where
 t:∀ i j,i<M→j<us.length→touchL (fstS rs i) ((us[j]?).getD [])=true→X i≤Xt j
 a:∀ (st:St),st.bk.map Pb.us=us→st.bk.map Pb.r=rk→(∀ j,j<us.length→wtAt st.bk j≤Xt j)→∀ i,i<M→at0 cs i+wsum st.bk i≤X i
 m:∀ i,i<M→X i≤64
structure BdM (us:List (List (Int × Int))) (M:Nat) (X Xt:Nat→Int) (st:St):Prop where
 w:∀ i,i<M→at0 st.ws i≤X i
 t:∀ j,j<us.length→wtAt st.bk j≤Xt j
theorem settle_leastM {rs:List Rl} {cs:List Int} {us:List (List (Int × Int))} {rk:List Nat} {M:Nat} {X Xt:Nat→Int} (hX:SolM rs us rk cs M X Xt) (hM:M≤cs.length) {last:Nat} (hl:last<M):∀ (F:Nat) (st:St),Run rs cs us rk st→BdM us M X Xt st→(settleP rs last F st).1=true∧BdM us M X Xt (settleP rs last F st).2
 | 0,st,_,hb=>⟨rfl,hb⟩
 | F+1,st,h,hb=>by
  unfold settleP
  cases hk:look st (last+1) 0 with
  | none=>exact ⟨rfl,hb⟩
  | some n=>
   simp only
   have hle:=look_le st _ _ _ hk
   have hs:=look_some hk
   have hnM:n<M:=by omega
   have hn:n<cs.length:=by omega
   have haq:at0 st.aq n≤X n:=by
    rw [h.ok.asum n hn]
    exact hX.a st h.ok.uss h.rk hb.t n hnM
   have hm:=hX.m n hnM
   have h64:¬ 64<at0 st.aq n:=by omega
   rw [if_neg h64]
   have h1:at0 st.ws n<at0 st.aq n:=hs.resolve_left h64
   refine settle_leastM hX hM hl F _ (h.lift hn h1 (by omega)) ⟨fun i hi => ?_,fun j hj => ?_⟩
   · rw [liftP_ws,at0_set (by rw [h.ok.wl];exact hn)]
     split
     · rename_i e;subst e;exact haq
     · exact hb.w i hi
   · rw [lift_wt]
     split
     · rename_i hc
       have ht:=hc.1.2
       rw [usAt_eq h.ok.uss] at ht
       exact Int.le_trans haq (hX.t n j hnM hj ht)
     · exact hb.t j hj
theorem settleAll_leastM {rs:List Rl} {cs:List Int} {us:List (List (Int × Int))} {rk:List Nat} {M:Nat} {X Xt:Nat→Int} (hX:SolM rs us rk cs M X Xt) (hc:cs.length=rs.length) (hM:M≤rs.length):∀ (k n:Nat) (st:St),n+k≤M→Run rs cs us rk st→BdM us M X Xt st→(settleAll rs k n st).1=none∧BdM us M X Xt (settleAll rs k n st).2
 | 0,n,st,_,_,hb=>⟨rfl,hb⟩
 | k+1,n,st,hn,h,hb=>by
  have hs:=settle_sound (last:=n) (by omega) (64*rs.length+1) st h (by rw [hc];omega)
  have hl:=settle_leastM hX (by omega) (last:=n) (by omega) (64*rs.length+1) st h hb
  rw [settleAll,if_pos hl.1]
  exact settleAll_leastM hX hc hM k (n+1) _ (by omega) hs.1 hl.2
theorem settleAll_soundM {rs:List Rl} {cs:List Int} {us:List (List (Int × Int))} {rk:List Nat} (hc:cs.length=rs.length):∀ (k n:Nat) (st:St),n+k≤rs.length→Run rs cs us rk st→(k=0→0<n→look st n 0=none)→∀ R,settleAll rs k n st=(none,R)→Run rs cs us rk R∧(0<n+k→look R (n+k) 0=none)
 | 0,n,st,hn,h,h0,R,e=>by
  simp only [settleAll] at e
  cases e
  exact ⟨h,fun hp=>h0 rfl (by omega)⟩
 | k+1,n,st,hn,h,_,R,e=>by
  have hs:=settle_sound (last:=n) (by omega) (64*rs.length+1) st h (by rw [hc];omega)
  rw [settleAll] at e
  by_cases ht:(settleP rs n (64*rs.length+1) st).1=true
  · rw [if_pos ht] at e
    have:=settleAll_soundM hc k (n+1) _ (by omega) hs.1 (fun _ _=>hs.2 ht) R e
    rw [show n+(k+1)=n+1+k by omega]
    exact this
  · rw [if_neg ht] at e
    cases e
theorem settleAll_fail {rs:List Rl} : ∀ (k n:Nat) (st:St) (f:Nat) (S:St),settleAll rs k n st=(some f,S)→n≤f∧f<n+k∧(∀ m,n+m≤f→∃ R,settleAll rs m n st=(none,R))∧∀ m,f<n+m→(settleAll rs m n st).1=some f
 | 0,n,st,f,S,e=>by simp [settleAll] at e
 | k+1,n,st,f,S,e=>by
  rw [settleAll] at e
  by_cases ht:(settleP rs n (64*rs.length+1) st).1=true
  · rw [if_pos ht] at e
    obtain ⟨h1,h2,h3,h4⟩:=settleAll_fail k (n+1) _ f S e
    refine ⟨by omega,by omega,fun m hm => ?_,fun m hm => ?_⟩
    · cases m with
      | zero=>exact ⟨_,rfl⟩
      | succ m=>
       obtain ⟨R,hR⟩:=h3 m (by omega)
       exact ⟨R,by rw [settleAll,if_pos ht];exact hR⟩
    · cases m with
      | zero=>omega
      | succ m=>rw [settleAll,if_pos ht];exact h4 m (by omega)
  · rw [if_neg ht] at e
    injection e with e1 e2
    injection e1 with e1
    subst e1
    refine ⟨Nat.le_refl _,by omega,fun m hm => ?_,fun m hm => ?_⟩
    · have:m=0:=by omega
      subst this
      exact ⟨_,rfl⟩
    · cases m with
      | zero=>omega
      | succ m=>rw [settleAll,if_neg ht]
theorem bkI_more (rs:List Rl) (m:Nat):∀ k,∃ t,bkI rs (m+k)=bkI rs m++t∧∀ b∈t,m≤b.r
 | 0=>⟨[],by simp,by simp⟩
 | k+1=>by
  obtain ⟨t,ht,hr⟩:=bkI_more rs m k
  refine ⟨t++pbs (m+k) ((rs[m+k]?.map backP).getD []),by rw [show m+(k+1)=(m+k)+1 by omega,bkI,ht,List.append_assoc],fun b hb => ?_⟩
  rcases List.mem_append.1 hb with hb | hb
  · exact hr b hb
  · rw [(pbs_mem hb).1];omega
theorem wsum_zero:∀ (l:List Pb) (n:Nat),(∀ b∈l,b.r≠n)→wsum l n=0
 | [],_,_=>rfl
 | b::l,n,h=>by
  rw [wsum,if_neg (h b List.mem_cons_self),wsum_zero l n fun c hc=>h c (List.mem_cons_of_mem _ hc)]
  rfl
def fea (rs:List Rl):Bool:=(wgh rs).1.isSome
theorem fea_iff {rs:List Rl} : fea rs=true↔∃ st c,wgh rs=(some st,c):=by
 unfold fea
 cases h:wgh rs with
 | mk o c=>cases o <;> simp
theorem wgh_of {rs:List Rl} (hA:(allE rs).2=0) (hcp:∀ r∈rs,copB r=false):wgh rs=match settleAll rs rs.length 0 (stK rs rs.length) with
      | (some n,_)=>(none,(n:Int),81)
      | (none,st)=>(some st,0,0):=by
 unfold wgh
 rw [if_neg (by rw [hA];simp),fstC_of hcp]
 obtain ⟨o,R,hR⟩:∃ o R,settleAll rs rs.length 0 (stK rs rs.length)=(o,R):=⟨_,_,rfl⟩
 rw [hR]
 cases o <;> rfl
theorem allE_take {rs:List Rl} (hA:(allE rs).2=0) (m:Nat):(allE (rs.take m)).2=0:=by
 have h1:=allE_ok hA
 unfold allE at hA ⊢
 by_cases hn:256<rs.length
 · rw [if_pos hn] at hA;cases hA
 · rw [if_neg hn] at hA
   rw [if_neg (by simp;omega),fstR_of fun r hr=>fstR_ok hA r (List.mem_of_mem_take hr)]
theorem few_gen {rs:List Rl} {st:St} (hA:(allE rs).2=0) (hcp:∀ r∈rs,copB r=false) (hrun:Run rs (csI rs) ((bkI rs rs.length).map Pb.us) ((bkI rs rs.length).map Pb.r) st) {m:Nat} (hm:m≤rs.length) (hen:∀ i,i<m→at0 st.aq i≤at0 st.ws i) :
 fea (rs.take m)=true:=by
 have hl:(rs.take m).length=m:=by simp;omega
 have hmem:∀ r∈rs.take m,r∈rs:=fun r hr=>List.mem_of_mem_take hr
 have hok:=allE_ok hA
 have hO:∀ r∈rs.take m,Ok r:=fun r hr=>hok.2 r (hmem r hr)
 have hn:(rs.take m).length≤256:=by have:=hok.1;omega
 obtain ⟨t,ht⟩:=bkI_pre rs m (rs.length - m)
 rw [show m+(rs.length - m)=rs.length by omega] at ht
 have hbt:bkI (rs.take m) (rs.take m).length=bkI rs m:=by rw [hl];exact bkI_take rs m m (Nat.le_refl _)
 have hlen:st.bk.length=(bkI rs rs.length).length:=by simpa using congrArg List.length hrun.ok.uss
 have hle:(bkI rs m).length≤st.bk.length:=by rw [hlen,ht];simp
 have hus:∀ j,j<(bkI rs m).length→usAt st.bk j=usAt (bkI rs m) j:=fun j hj=>by
  rw [usAt_eq hrun.ok.uss,usAt_eq rfl,ht,List.map_append,List.getElem?_append_left (by simpa using hj)]
 have hr:∀ j (h1:j<(bkI rs m).length) (h2:j<st.bk.length),st.bk[j].r=(bkI rs m)[j].r:=fun j h1 h2=>by
  have e:=congrArg (fun l=>l[j]?) hrun.rk
  simp only [List.getElem?_map,ht] at e
  rw [List.getElem?_eq_getElem h2,List.getElem?_append_left h1,List.getElem?_eq_getElem h1] at e
  simpa using e
 have hsol:Sol (rs.take m) (csI (rs.take m)) ((bkI (rs.take m) (rs.take m).length).map Pb.us) ((bkI (rs.take m) (rs.take m).length).map Pb.r) (fun i=>at0 st.ws i) (fun j=>wtAt st.bk j):=by
  rw [hbt]
  refine ⟨fun i j hi hj hT => ?_,fun st2 h1 h2 h3 i hi => ?_,fun i hi => ?_⟩
  · rw [csI_len,hl] at hi
    simp only [List.length_map] at hj
    rw [fstS_take hi,←usAt_eq rfl,←hus j hj] at hT
    exact hrun.sn i j (by rw [csI_len];omega) (by omega) hT
  · rw [csI_len,hl] at hi
    have hi':i<rs.length:=by omega
    have hcs:at0 (csI (rs.take m)) i=at0 (csI rs) i:=by
     rw [csI_val (by rw [hl];exact hi),csI_val hi']
     simp
    have hl2:st2.bk.length=(bkI rs m).length:=by simpa using congrArg List.length h1
    have hws:wsum st2.bk i≤wsum st.bk i:=by
     refine wsum_le _ _ i (by omega) (fun j a b => ?_) (fun b hb=>by have:=(hrun.ok.pb b hb).2.1;omega)
     have e:=congrArg (fun l=>l[j]?) h2
     simp only [List.getElem?_map] at e
     rw [List.getElem?_eq_getElem a,List.getElem?_eq_getElem (by omega)] at e
     simp only [Option.map_some,Option.some.injEq] at e
     refine ⟨e.trans (hr j (by omega) b).symm,?_⟩
     have:=h3 j (by simp;omega)
     unfold wtAt at this
     rw [List.getElem?_eq_getElem a,List.getElem?_eq_getElem b] at this
     exact this
    have h4:=hrun.ok.asum i (by rw [csI_len];exact hi')
    have h5:=hen i hi
    rw [hcs]
    omega
  · rw [csI_len,hl] at hi
    exact (hrun.ok.wb i (by rw [csI_len];omega)).2
 have hstart:=run_start hO hn
 have hbd:Bd (csI (rs.take m)) ((bkI (rs.take m) (rs.take m).length).map Pb.us) (fun i=>at0 st.ws i) (fun j=>wtAt st.bk j) (stK (rs.take m) (rs.take m).length):=by
  refine ⟨fun i hi => ?_,fun j hj => ?_⟩
  · rw [csI_len,hl] at hi
    have h1:=(hrun.ok.wb i (by rw [csI_len];omega)).1
    have h2:at0 (stK (rs.take m) (rs.take m).length).ws i=1:=by
     rw [stK_all,hl]
     simp [at0,hi]
    omega
  · rw [hbt] at hj
    simp only [List.length_map] at hj
    have h1:1≤wtAt st.bk j:=by
     unfold wtAt
     rw [List.getElem?_eq_getElem (by omega)]
     exact (hrun.ok.pb _ (List.getElem_mem _)).2.1
    have h2:wtAt (stK (rs.take m) (rs.take m).length).bk j=1:=by
     rw [stK_all]
     show wtAt (bkI (rs.take m) (rs.take m).length) j=1
     rw [hbt]
     unfold wtAt
     rw [List.getElem?_eq_getElem hj]
     exact (bkI_mem (List.getElem_mem hj)).2.1
    omega
 have hres:=settleAll_least hsol (csI_len _) (rs.take m).length 0 _ (by omega) hstart hbd
 obtain ⟨o,R,hR⟩:∃ o R,settleAll (rs.take m) (rs.take m).length 0 (stK (rs.take m) (rs.take m).length)=(o,R):=⟨_,_,rfl⟩
 rw [hR] at hres
 obtain ⟨h1,h2⟩:=hres
 simp only at h1
 subst h1
 rw [fea,wgh_of (allE_take hA m) fun r hr=>hcp r (hmem r hr),hR]
 rfl
theorem few_back {rs:List Rl} (hA:(allE rs).2=0) {M:Nat} (hM:M≤rs.length) (hf:fea (rs.take M)=true):(settleAll rs M 0 (stK rs rs.length)).1=none:=by
 obtain ⟨st',c,hw⟩:=fea_iff.1 hf
 have hF:=wgh_fin hw
 have hok:=allE_ok hA
 have hl:(rs.take M).length=M:=by simp;omega
 obtain ⟨t,ht,hrt⟩:=bkI_more rs M (rs.length - M)
 rw [show M+(rs.length - M)=rs.length by omega] at ht
 have hbt:bkI (rs.take M) (rs.take M).length=bkI rs M:=by rw [hl];exact bkI_take rs M M (Nat.le_refl _)
 have hus':=hF.run.ok.uss
 have hrk':=hF.run.rk
 rw [hbt] at hus' hrk'
 have hlen':st'.bk.length=(bkI rs M).length:=by simpa using congrArg List.length hus'
 have hwt:∀ j,j<st'.bk.length→1≤wtAt st'.bk j:=fun j hj=>by
  unfold wtAt
  rw [List.getElem?_eq_getElem hj]
  exact (hF.run.ok.pb _ (List.getElem_mem _)).2.1
 have hsol:SolM rs ((bkI rs rs.length).map Pb.us) ((bkI rs rs.length).map Pb.r) (csI rs) M (fun i=>at0 st'.ws i) (fun j=>if j<st'.bk.length then wtAt st'.bk j else 64):=by
  refine ⟨fun i j hi hj hT => ?_,fun st2 h1 h2 h3 i hi => ?_,fun i hi => ?_⟩
  · split
    · rename_i hj'
      rw [ht,List.map_append,List.getElem?_append_left (by simp;omega),←hus',←usAt_eq rfl,←fstS_take hi] at hT
      exact hF.run.sn i j (by rw [csI_len,hl];exact hi) hj' hT
    · exact (hF.run.ok.wb i (by rw [csI_len,hl];exact hi)).2
  · have hi':i<rs.length:=by omega
    have hcs:at0 (csI (rs.take M)) i=at0 (csI rs) i:=by
     rw [csI_val (by rw [hl];exact hi),csI_val hi']
     simp
    have hl2:st2.bk.length=(bkI rs rs.length).length:=by simpa using congrArg List.length h1
    have hl3:(bkI rs rs.length).length=(bkI rs M).length+t.length:=by rw [ht];simp
    have hsp:wsum st2.bk i=wsum (st2.bk.take (bkI rs M).length) i+wsum (st2.bk.drop (bkI rs M).length) i:=by
     rw [←wsum_append,List.take_append_drop]
    have hz:wsum (st2.bk.drop (bkI rs M).length) i=0:=by
     refine wsum_zero _ _ fun b hb => ?_
     have hb2:b.r∈(st2.bk.drop (bkI rs M).length).map Pb.r:=List.mem_map_of_mem hb
     rw [List.map_drop,h2,ht,List.map_append,List.drop_left' (by simp)] at hb2
     obtain ⟨c,hc,e⟩:=List.mem_map.1 hb2
     have:=hrt c hc
     omega
    have hws:wsum (st2.bk.take (bkI rs M).length) i≤wsum st'.bk i:=by
     refine wsum_le _ _ i (by simp;omega) (fun j a b => ?_) (fun b hb=>by have:=(hF.run.ok.pb b hb).2.1;omega)
     have a':j<st2.bk.length:=by simp at a;omega
     have e:=congrArg (fun l=>l[j]?) h2
     have e':=congrArg (fun l=>l[j]?) hrk'
     simp only [List.getElem?_map] at e e'
     rw [List.getElem?_eq_getElem a',ht,List.getElem?_append_left (by omega)] at e
     rw [List.getElem?_eq_getElem b] at e'
     rw [←e'] at e
     simp only [Option.map_some,Option.some.injEq] at e
     refine ⟨by simpa using e,?_⟩
     have:=h3 j (by simp;omega)
     simp only [if_pos b] at this
     unfold wtAt at this
     rw [List.getElem?_eq_getElem a',List.getElem?_eq_getElem b] at this
     simpa using this
    have h4:=hF.run.ok.asum i (by rw [csI_len,hl];exact hi)
    have h5:=hF.en i (by rw [hl];exact hi)
    rw [hcs] at h4
    show at0 (csI rs) i+wsum st2.bk i≤at0 st'.ws i
    omega
  · exact (hF.run.ok.wb i (by rw [csI_len,hl];exact hi)).2
 have hbd:BdM ((bkI rs rs.length).map Pb.us) M (fun i=>at0 st'.ws i) (fun j=>if j<st'.bk.length then wtAt st'.bk j else 64) (stK rs rs.length):=by
  refine ⟨fun i hi => ?_,fun j hj => ?_⟩
  · have h1:=(hF.run.ok.wb i (by rw [csI_len,hl];exact hi)).1
    have h2:at0 (stK rs rs.length).ws i=1:=by
     rw [stK_all]
     have:i<rs.length:=by omega
     simp [at0,this]
    show at0 _ i≤at0 st'.ws i
    omega
  · simp only [List.length_map] at hj
    have h2:wtAt (stK rs rs.length).bk j=1:=by
     rw [stK_all]
     show wtAt (bkI rs rs.length) j=1
     unfold wtAt
     rw [List.getElem?_eq_getElem hj]
     exact (bkI_mem (List.getElem_mem hj)).2.1
    split
    · rename_i hj'
      have:=hwt j hj'
      omega
    · omega
 exact (settleAll_leastM hsol (csI_len _) hM M 0 _ (by omega) (run_start hok.2 hok.1) hbd).1
theorem wgh_first {rs:List Rl} (hA:(allE rs).2=0) (hcp:∀ r∈rs,copB r=false) (hf:fea rs=false):∃ n,n<rs.length∧chkW rs=((n:Int),81)∧(∀ m,m≤n→fea (rs.take m)=true)∧fea (rs.take (n+1))=false:=by
 have hw:=wgh_of hA hcp
 have hok:=allE_ok hA
 obtain ⟨o,R,hR⟩:∃ o R,settleAll rs rs.length 0 (stK rs rs.length)=(o,R):=⟨_,_,rfl⟩
 rw [hR] at hw
 cases o with
 | none=>rw [fea,hw] at hf;cases hf
 | some n=>
  simp only at hw
  obtain ⟨_,h2,h3,h4⟩:=settleAll_fail _ _ _ _ _ hR
  refine ⟨n,by omega,by rw [chkW,hw],fun m hm => ?_,?_⟩
  · obtain ⟨S,hS⟩:=h3 m (by omega)
    have hs:=settleAll_soundM (csI_len rs) m 0 _ (by omega) (run_start hok.2 hok.1) (fun _ h=>by omega) S hS
    rw [Nat.zero_add] at hs
    refine few_gen hA hcp hs.1 (by omega) fun i hi => ?_
    exact (look_none (hs.2 (by omega)) i (Nat.zero_le _) (by omega)).2
  · cases hx:fea (rs.take (n+1)) with
    | false=>rfl
    | true=>
     have:=few_back hA (M:=n+1) (by omega) hx
     rw [h4 (n+1) (by omega)] at this
     cases this
theorem chkW_fea {rs:List Rl} (h:fea rs=true):chkW rs=(0,0):=by
 obtain ⟨st,c,hw⟩:=fea_iff.1 h
 have hF:=wgh_fin hw
 unfold wgh at hw
 unfold chkW wgh
 split at hw
 · injection hw with h1;cases h1
 · rename_i h0
   rw [if_neg h0]
   split at hw
   · injection hw with h1;cases h1
   · split at hw
     · injection hw with h1;cases h1
     · rfl
end Go.Proofs
