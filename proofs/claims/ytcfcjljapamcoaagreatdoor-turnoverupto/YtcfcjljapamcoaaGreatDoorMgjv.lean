/-
  Several texts in one (Fc La Lb Lc).
-/
import Derived.RangeFuncNested
import Derived.RangeFuncBound
import Derived.RangeFuncCalls
import Derived.RangeFuncLeaves
import Derived.Shelf.Abstract
import Derived.Shelf.RegionOpen
import Derived.WalkKit
import Derived.WalkSpells
import Derived.WalkLawsBesides
import Derived.OwnWalkIn
import Derived.TacticsInMore
import Derived.LoopNIn
import Derived.LoopIn
import Derived.BigQuiet
import Derived.RegionIn
import Derived.Deep.QuietTactic
import Derived.Deep.RegionWith
import Derived.Lib.OthersKept
import Derived.Maps.AppendAt
import Derived.Lib.SmallJoins
import Derived.Shelf.SlSortCmp.QuietGrown
import Derived.Test.YtcfcjljapamcoaaGreatDoorMgcv
import Derived.Test.YtcfcjljapamcoaaGreatDoorMgdv
import Derived.Deep.AppendLies
import Derived.Deep.RegionLaw
import Derived.Deep.DeepCutAuto
import Derived.Deep.CutBlock
import Derived.Laws.OwnMore
import Derived.Laws.ResultCell
import Derived.Test.YtcfcjljapamcoaaGreatDoorMgbv
namespace Go.Proofs
open Go.RowKit Go.Shelf
set_option maxRecDepth 100000
attribute [local go_sem] Oper.semAt_some
attribute [local go_sem ↓] Go.wp_at_zero Go.wp_at_succ
theorem bkI_take (rs:List Rl) (m:Nat):∀ k,k≤m→bkI (rs.take m) k=bkI rs k
 | 0,_=>rfl
 | k+1,h=>by
  rw [bkI,bkI,bkI_take rs m k (by omega)]
  congr 2
  rw [List.getElem?_take,if_pos (by omega)]
theorem bkI_pre (rs:List Rl) (m:Nat):∀ k,∃ t,bkI rs (m+k)=bkI rs m++t
 | 0=>⟨[],by simp⟩
 | k+1=>by
  obtain ⟨t,ht⟩:=bkI_pre rs m k
  exact ⟨t++pbs (m+k) ((rs[m+k]?.map backP).getD []),by rw [show m+(k+1)=(m+k)+1 by omega,bkI,ht,List.append_assoc]⟩
theorem wsum_le:∀ (l k:List Pb) (n:Nat),l.length≤k.length→(∀ j (h:j<l.length) (h':j<k.length),l[j].r=k[j].r∧l[j].wt≤k[j].wt)→(∀ b∈k,0≤b.wt)→wsum l n≤wsum k n
 | [],[],n,_,_,_=>Int.le_refl _
 | [],b::k,n,_,h,hp=>by
  have:=wsum_le [] k n (by simp) (fun j h=>by simp at h) fun x hx=>hp x (List.mem_cons_of_mem _ hx)
  have h2:=hp b List.mem_cons_self
  simp only [wsum] at this ⊢
  split <;> omega
 | _::_,[],n,h,_,_=>by simp at h
 | a::l,b::k,n,hl,h,hp=>by
  have ih:=wsum_le l k n (by simpa using hl) (fun j h1 h2=>by have:=h (j+1) (by simpa using h1) (by simpa using h2);simpa using this) fun x hx=>hp x (List.mem_cons_of_mem _ hx)
  have h0:=h 0 (by simp) (by simp)
  simp at h0
  simp only [wsum,h0.1]
  split <;> omega
theorem fstS_take {rs:List Rl} {m i:Nat} (h:i<m):fstS (rs.take m) i=fstS rs i:=by
 unfold fstS
 rw [List.getElem?_take,if_pos h]
structure SolM (rs:List Rl) (us:List (List (Int × Int))) (rk:List Nat) (cs:List Int) (M:Nat) (X:Nat→Int) (Xt:Nat→Int):Prop where
 t:∀ i j,i<M→j<us.length→touchL (fstS rs i) ((us[j]?).getD [])=true→X i≤Xt j
 a:∀ (st:St),st.bk.map Pb.us=us→st.bk.map Pb.r=rk→(∀ j,j<us.length→wtAt st.bk j≤Xt j)→∀ i,i<M→at0 cs i+wsum st.bk i≤X i
 m:∀ i,i<M→X i≤64
structure BdM (us:List (List (Int × Int))) (M:Nat) (X Xt:Nat→Int) (st:St):Prop where
 w:∀ i,i<M→at0 st.ws i≤X i
 t:∀ j,j<us.length→wtAt st.bk j≤Xt j
theorem settle_leastM {rs:List Rl} {cs:List Int} {us:List (List (Int × Int))} {rk:List Nat} {M:Nat} {X Xt:Nat→Int} (hX:SolM rs us rk cs M X Xt) (hM:M≤cs.length) {last:Nat} (hl:last<M):∀ (F:Nat) (st:St),Run rs cs us rk st→BdM us M X Xt st→(settleP rs last F st).1=true∧BdM us M X Xt (settleP rs last F st).2
 | 0,st,_,hb=>⟨rfl,hb⟩
 | F+1,st,h,hb=>by
  unfold settleP
  cases hk:look st (last+1) 0 with
  | none=>exact ⟨rfl,hb⟩
  | some n=>
   simp only
   have hle:=look_le st _ _ _ hk
   have hs:=look_some hk
   have hnM:n<M:=by omega
   have hn:n<cs.length:=by omega
   have haq:at0 st.aq n≤X n:=by
    rw [h.ok.asum n hn]
    exact hX.a st h.ok.uss h.rk hb.t n hnM
   have hm:=hX.m n hnM
   have h64:¬ 64<at0 st.aq n:=by omega
   rw [if_neg h64]
   have h1:at0 st.ws n<at0 st.aq n:=hs.resolve_left h64
   refine settle_leastM hX hM hl F _ (h.lift hn h1 (by omega)) ⟨fun i hi => ?_,fun j hj => ?_⟩
   · rw [liftP_ws,at0_set (by rw [h.ok.wl];exact hn)]
     split
     · rename_i e;subst e;exact haq
     · exact hb.w i hi
   · rw [lift_wt]
     split
     · rename_i hc
       have ht:=hc.1.2
       rw [usAt_eq h.ok.uss] at ht
       exact Int.le_trans haq (hX.t n j hnM hj ht)
     · exact hb.t j hj
theorem settleAll_leastM {rs:List Rl} {cs:List Int} {us:List (List (Int × Int))} {rk:List Nat} {M:Nat} {X Xt:Nat→Int} (hX:SolM rs us rk cs M X Xt) (hc:cs.length=rs.length) (hM:M≤rs.length):∀ (k n:Nat) (st:St),n+k≤M→Run rs cs us rk st→BdM us M X Xt st→(settleAll rs k n st).1=none∧BdM us M X Xt (settleAll rs k n st).2
 | 0,n,st,_,_,hb=>⟨rfl,hb⟩
 | k+1,n,st,hn,h,hb=>by
  have hs:=settle_sound (last:=n) (by omega) (64*rs.length+1) st h (by rw [hc];omega)
  have hl:=settle_leastM hX (by omega) (last:=n) (by omega) (64*rs.length+1) st h hb
  rw [settleAll,if_pos hl.1]
  exact settleAll_leastM hX hc hM k (n+1) _ (by omega) hs.1 hl.2
theorem settleAll_soundM {rs:List Rl} {cs:List Int} {us:List (List (Int × Int))} {rk:List Nat} (hc:cs.length=rs.length):∀ (k n:Nat) (st:St),n+k≤rs.length→Run rs cs us rk st→(k=0→0<n→look st n 0=none)→∀ R,settleAll rs k n st=(none,R)→Run rs cs us rk R∧(0<n+k→look R (n+k) 0=none)
 | 0,n,st,hn,h,h0,R,e=>by
  simp only [settleAll] at e
  cases e
  exact ⟨h,fun hp=>h0 rfl (by omega)⟩
 | k+1,n,st,hn,h,_,R,e=>by
  have hs:=settle_sound (last:=n) (by omega) (64*rs.length+1) st h (by rw [hc];omega)
  rw [settleAll] at e
  by_cases ht:(settleP rs n (64*rs.length+1) st).1=true
  · rw [if_pos ht] at e
    have:=settleAll_soundM hc k (n+1) _ (by omega) hs.1 (fun _ _=>hs.2 ht) R e
    rw [show n+(k+1)=n+1+k by omega]
    exact this
  · rw [if_neg ht] at e
    cases e
theorem settleAll_fail {rs:List Rl} : ∀ (k n:Nat) (st:St) (f:Nat) (S:St),settleAll rs k n st=(some f,S)→n≤f∧f<n+k∧(∀ m,n+m≤f→∃ R,settleAll rs m n st=(none,R))∧∀ m,f<n+m→(settleAll rs m n st).1=some f
 | 0,n,st,f,S,e=>by simp [settleAll] at e
 | k+1,n,st,f,S,e=>by
  rw [settleAll] at e
  by_cases ht:(settleP rs n (64*rs.length+1) st).1=true
  · rw [if_pos ht] at e
    obtain ⟨h1,h2,h3,h4⟩:=settleAll_fail k (n+1) _ f S e
    refine ⟨by omega,by omega,fun m hm => ?_,fun m hm => ?_⟩
    · cases m with
      | zero=>exact ⟨_,rfl⟩
      | succ m=>
       obtain ⟨R,hR⟩:=h3 m (by omega)
       exact ⟨R,by rw [settleAll,if_pos ht];exact hR⟩
    · cases m with
      | zero=>omega
      | succ m=>rw [settleAll,if_pos ht];exact h4 m (by omega)
  · rw [if_neg ht] at e
    injection e with e1 e2
    injection e1 with e1
    subst e1
    refine ⟨Nat.le_refl _,by omega,fun m hm => ?_,fun m hm => ?_⟩
    · have:m=0:=by omega
      subst this
      exact ⟨_,rfl⟩
    · cases m with
      | zero=>omega
      | succ m=>rw [settleAll,if_neg ht]
theorem bkI_more (rs:List Rl) (m:Nat):∀ k,∃ t,bkI rs (m+k)=bkI rs m++t∧∀ b∈t,m≤b.r
 | 0=>⟨[],by simp,by simp⟩
 | k+1=>by
  obtain ⟨t,ht,hr⟩:=bkI_more rs m k
  refine ⟨t++pbs (m+k) ((rs[m+k]?.map backP).getD []),by rw [show m+(k+1)=(m+k)+1 by omega,bkI,ht,List.append_assoc],fun b hb => ?_⟩
  rcases List.mem_append.1 hb with hb | hb
  · exact hr b hb
  · rw [(pbs_mem hb).1];omega
theorem wsum_zero:∀ (l:List Pb) (n:Nat),(∀ b∈l,b.r≠n)→wsum l n=0
 | [],_,_=>rfl
 | b::l,n,h=>by
  rw [wsum,if_neg (h b List.mem_cons_self),wsum_zero l n fun c hc=>h c (List.mem_cons_of_mem _ hc)]
  rfl
def fea (rs:List Rl):Bool:=(wgh rs).1.isSome
theorem fea_iff {rs:List Rl} : fea rs=true↔∃ st c,wgh rs=(some st,c):=by
 unfold fea
 cases h:wgh rs with
 | mk o c=>cases o <;> simp
theorem wgh_of {rs:List Rl} (hA:(allE rs).2=0) (hcp:∀ r∈rs,copB r=false):wgh rs=match settleAll rs rs.length 0 (stK rs rs.length) with
      | (some n,_)=>(none,(n:Int),81)
      | (none,st)=>(some st,0,0):=by
 unfold wgh
 rw [if_neg (by rw [hA];simp),fstC_of hcp]
 obtain ⟨o,R,hR⟩:∃ o R,settleAll rs rs.length 0 (stK rs rs.length)=(o,R):=⟨_,_,rfl⟩
 rw [hR]
 cases o <;> rfl
theorem allE_take {rs:List Rl} (hA:(allE rs).2=0) (m:Nat):(allE (rs.take m)).2=0:=by
 have h1:=allE_ok hA
 unfold allE at hA ⊢
 by_cases hn:256<rs.length
 · rw [if_pos hn] at hA;cases hA
 · rw [if_neg hn] at hA
   rw [if_neg (by simp;omega),fstR_of fun r hr=>fstR_ok hA r (List.mem_of_mem_take hr)]
theorem few_gen {rs:List Rl} {st:St} (hA:(allE rs).2=0) (hcp:∀ r∈rs,copB r=false) (hrun:Run rs (csI rs) ((bkI rs rs.length).map Pb.us) ((bkI rs rs.length).map Pb.r) st) {m:Nat} (hm:m≤rs.length) (hen:∀ i,i<m→at0 st.aq i≤at0 st.ws i) :
 fea (rs.take m)=true:=by
 have hl:(rs.take m).length=m:=by simp;omega
 have hmem:∀ r∈rs.take m,r∈rs:=fun r hr=>List.mem_of_mem_take hr
 have hok:=allE_ok hA
 have hO:∀ r∈rs.take m,Ok r:=fun r hr=>hok.2 r (hmem r hr)
 have hn:(rs.take m).length≤256:=by have:=hok.1;omega
 obtain ⟨t,ht⟩:=bkI_pre rs m (rs.length - m)
 rw [show m+(rs.length - m)=rs.length by omega] at ht
 have hbt:bkI (rs.take m) (rs.take m).length=bkI rs m:=by rw [hl];exact bkI_take rs m m (Nat.le_refl _)
 have hlen:st.bk.length=(bkI rs rs.length).length:=by simpa using congrArg List.length hrun.ok.uss
 have hle:(bkI rs m).length≤st.bk.length:=by rw [hlen,ht];simp
 have hus:∀ j,j<(bkI rs m).length→usAt st.bk j=usAt (bkI rs m) j:=fun j hj=>by
  rw [usAt_eq hrun.ok.uss,usAt_eq rfl,ht,List.map_append,List.getElem?_append_left (by simpa using hj)]
 have hr:∀ j (h1:j<(bkI rs m).length) (h2:j<st.bk.length),st.bk[j].r=(bkI rs m)[j].r:=fun j h1 h2=>by
  have e:=congrArg (fun l=>l[j]?) hrun.rk
  simp only [List.getElem?_map,ht] at e
  rw [List.getElem?_eq_getElem h2,List.getElem?_append_left h1,List.getElem?_eq_getElem h1] at e
  simpa using e
 have hsol:Sol (rs.take m) (csI (rs.take m)) ((bkI (rs.take m) (rs.take m).length).map Pb.us) ((bkI (rs.take m) (rs.take m).length).map Pb.r) (fun i=>at0 st.ws i) (fun j=>wtAt st.bk j):=by
  rw [hbt]
  refine ⟨fun i j hi hj hT => ?_,fun st2 h1 h2 h3 i hi => ?_,fun i hi => ?_⟩
  · rw [csI_len,hl] at hi
    simp only [List.length_map] at hj
    rw [fstS_take hi,←usAt_eq rfl,←hus j hj] at hT
    exact hrun.sn i j (by rw [csI_len];omega) (by omega) hT
  · rw [csI_len,hl] at hi
    have hi':i<rs.length:=by omega
    have hcs:at0 (csI (rs.take m)) i=at0 (csI rs) i:=by
     rw [csI_val (by rw [hl];exact hi),csI_val hi']
     simp
    have hl2:st2.bk.length=(bkI rs m).length:=by simpa using congrArg List.length h1
    have hws:wsum st2.bk i≤wsum st.bk i:=by
     refine wsum_le _ _ i (by omega) (fun j a b => ?_) (fun b hb=>by have:=(hrun.ok.pb b hb).2.1;omega)
     have e:=congrArg (fun l=>l[j]?) h2
     simp only [List.getElem?_map] at e
     rw [List.getElem?_eq_getElem a,List.getElem?_eq_getElem (by omega)] at e
     simp only [Option.map_some,Option.some.injEq] at e
     refine ⟨e.trans (hr j (by omega) b).symm,?_⟩
     have:=h3 j (by simp;omega)
     unfold wtAt at this
     rw [List.getElem?_eq_getElem a,List.getElem?_eq_getElem b] at this
     exact this
    have h4:=hrun.ok.asum i (by rw [csI_len];exact hi')
    have h5:=hen i hi
    rw [hcs]
    omega
  · rw [csI_len,hl] at hi
    exact (hrun.ok.wb i (by rw [csI_len];omega)).2
 have hstart:=run_start hO hn
 have hbd:Bd (csI (rs.take m)) ((bkI (rs.take m) (rs.take m).length).map Pb.us) (fun i=>at0 st.ws i) (fun j=>wtAt st.bk j) (stK (rs.take m) (rs.take m).length):=by
  refine ⟨fun i hi => ?_,fun j hj => ?_⟩
  · rw [csI_len,hl] at hi
    have h1:=(hrun.ok.wb i (by rw [csI_len];omega)).1
    have h2:at0 (stK (rs.take m) (rs.take m).length).ws i=1:=by
     rw [stK_all,hl]
     simp [at0,hi]
    omega
  · rw [hbt] at hj
    simp only [List.length_map] at hj
    have h1:1≤wtAt st.bk j:=by
     unfold wtAt
     rw [List.getElem?_eq_getElem (by omega)]
     exact (hrun.ok.pb _ (List.getElem_mem _)).2.1
    have h2:wtAt (stK (rs.take m) (rs.take m).length).bk j=1:=by
     rw [stK_all]
     show wtAt (bkI (rs.take m) (rs.take m).length) j=1
     rw [hbt]
     unfold wtAt
     rw [List.getElem?_eq_getElem hj]
     exact (bkI_mem (List.getElem_mem hj)).2.1
    omega
 have hres:=settleAll_least hsol (csI_len _) (rs.take m).length 0 _ (by omega) hstart hbd
 obtain ⟨o,R,hR⟩:∃ o R,settleAll (rs.take m) (rs.take m).length 0 (stK (rs.take m) (rs.take m).length)=(o,R):=⟨_,_,rfl⟩
 rw [hR] at hres
 obtain ⟨h1,h2⟩:=hres
 simp only at h1
 subst h1
 rw [fea,wgh_of (allE_take hA m) fun r hr=>hcp r (hmem r hr),hR]
 rfl
theorem few_back {rs:List Rl} (hA:(allE rs).2=0) {M:Nat} (hM:M≤rs.length) (hf:fea (rs.take M)=true):(settleAll rs M 0 (stK rs rs.length)).1=none:=by
 obtain ⟨st',c,hw⟩:=fea_iff.1 hf
 have hF:=wgh_fin hw
 have hok:=allE_ok hA
 have hl:(rs.take M).length=M:=by simp;omega
 obtain ⟨t,ht,hrt⟩:=bkI_more rs M (rs.length - M)
 rw [show M+(rs.length - M)=rs.length by omega] at ht
 have hbt:bkI (rs.take M) (rs.take M).length=bkI rs M:=by rw [hl];exact bkI_take rs M M (Nat.le_refl _)
 have hus':=hF.run.ok.uss
 have hrk':=hF.run.rk
 rw [hbt] at hus' hrk'
 have hlen':st'.bk.length=(bkI rs M).length:=by simpa using congrArg List.length hus'
 have hwt:∀ j,j<st'.bk.length→1≤wtAt st'.bk j:=fun j hj=>by
  unfold wtAt
  rw [List.getElem?_eq_getElem hj]
  exact (hF.run.ok.pb _ (List.getElem_mem _)).2.1
 have hsol:SolM rs ((bkI rs rs.length).map Pb.us) ((bkI rs rs.length).map Pb.r) (csI rs) M (fun i=>at0 st'.ws i) (fun j=>if j<st'.bk.length then wtAt st'.bk j else 64):=by
  refine ⟨fun i j hi hj hT => ?_,fun st2 h1 h2 h3 i hi => ?_,fun i hi => ?_⟩
  · split
    · rename_i hj'
      rw [ht,List.map_append,List.getElem?_append_left (by simp;omega),←hus',←usAt_eq rfl,←fstS_take hi] at hT
      exact hF.run.sn i j (by rw [csI_len,hl];exact hi) hj' hT
    · exact (hF.run.ok.wb i (by rw [csI_len,hl];exact hi)).2
  · have hi':i<rs.length:=by omega
    have hcs:at0 (csI (rs.take M)) i=at0 (csI rs) i:=by
     rw [csI_val (by rw [hl];exact hi),csI_val hi']
     simp
    have hl2:st2.bk.length=(bkI rs rs.length).length:=by simpa using congrArg List.length h1
    have hl3:(bkI rs rs.length).length=(bkI rs M).length+t.length:=by rw [ht];simp
    have hsp:wsum st2.bk i=wsum (st2.bk.take (bkI rs M).length) i+wsum (st2.bk.drop (bkI rs M).length) i:=by
     rw [←wsum_append,List.take_append_drop]
    have hz:wsum (st2.bk.drop (bkI rs M).length) i=0:=by
     refine wsum_zero _ _ fun b hb => ?_
     have hb2:b.r∈(st2.bk.drop (bkI rs M).length).map Pb.r:=List.mem_map_of_mem hb
     rw [List.map_drop,h2,ht,List.map_append,List.drop_left' (by simp)] at hb2
     obtain ⟨c,hc,e⟩:=List.mem_map.1 hb2
     have:=hrt c hc
     omega
    have hws:wsum (st2.bk.take (bkI rs M).length) i≤wsum st'.bk i:=by
     refine wsum_le _ _ i (by simp;omega) (fun j a b => ?_) (fun b hb=>by have:=(hF.run.ok.pb b hb).2.1;omega)
     have a':j<st2.bk.length:=by simp at a;omega
     have e:=congrArg (fun l=>l[j]?) h2
     have e':=congrArg (fun l=>l[j]?) hrk'
     simp only [List.getElem?_map] at e e'
     rw [List.getElem?_eq_getElem a',ht,List.getElem?_append_left (by omega)] at e
     rw [List.getElem?_eq_getElem b] at e'
     rw [←e'] at e
     simp only [Option.map_some,Option.some.injEq] at e
     refine ⟨by simpa using e,?_⟩
     have:=h3 j (by simp;omega)
     simp only [if_pos b] at this
     unfold wtAt at this
     rw [List.getElem?_eq_getElem a',List.getElem?_eq_getElem b] at this
     simpa using this
    have h4:=hF.run.ok.asum i (by rw [csI_len,hl];exact hi)
    have h5:=hF.en i (by rw [hl];exact hi)
    rw [hcs] at h4
    show at0 (csI rs) i+wsum st2.bk i≤at0 st'.ws i
    omega
  · exact (hF.run.ok.wb i (by rw [csI_len,hl];exact hi)).2
 have hbd:BdM ((bkI rs rs.length).map Pb.us) M (fun i=>at0 st'.ws i) (fun j=>if j<st'.bk.length then wtAt st'.bk j else 64) (stK rs rs.length):=by
  refine ⟨fun i hi => ?_,fun j hj => ?_⟩
  · have h1:=(hF.run.ok.wb i (by rw [csI_len,hl];exact hi)).1
    have h2:at0 (stK rs rs.length).ws i=1:=by
     rw [stK_all]
     have:i<rs.length:=by omega
     simp [at0,this]
    show at0 _ i≤at0 st'.ws i
    omega
  · simp only [List.length_map] at hj
    have h2:wtAt (stK rs rs.length).bk j=1:=by
     rw [stK_all]
     show wtAt (bkI rs rs.length) j=1
     unfold wtAt
     rw [List.getElem?_eq_getElem hj]
     exact (bkI_mem (List.getElem_mem hj)).2.1
    split
    · rename_i hj'
      have:=hwt j hj'
      omega
    · omega
 exact (settleAll_leastM hsol (csI_len _) hM M 0 _ (by omega) (run_start hok.2 hok.1) hbd).1
theorem wgh_first {rs:List Rl} (hA:(allE rs).2=0) (hcp:∀ r∈rs,copB r=false) (hf:fea rs=false):∃ n,n<rs.length∧chkW rs=((n:Int),81)∧(∀ m,m≤n→fea (rs.take m)=true)∧fea (rs.take (n+1))=false:=by
 have hw:=wgh_of hA hcp
 have hok:=allE_ok hA
 obtain ⟨o,R,hR⟩:∃ o R,settleAll rs rs.length 0 (stK rs rs.length)=(o,R):=⟨_,_,rfl⟩
 rw [hR] at hw
 cases o with
 | none=>rw [fea,hw] at hf;cases hf
 | some n=>
  simp only at hw
  obtain ⟨_,h2,h3,h4⟩:=settleAll_fail _ _ _ _ _ hR
  refine ⟨n,by omega,by rw [chkW,hw],fun m hm => ?_,?_⟩
  · obtain ⟨S,hS⟩:=h3 m (by omega)
    have hs:=settleAll_soundM (csI_len rs) m 0 _ (by omega) (run_start hok.2 hok.1) (fun _ h=>by omega) S hS
    rw [Nat.zero_add] at hs
    refine few_gen hA hcp hs.1 (by omega) fun i hi => ?_
    exact (look_none (hs.2 (by omega)) i (Nat.zero_le _) (by omega)).2
  · cases hx:fea (rs.take (n+1)) with
    | false=>rfl
    | true=>
     have:=few_back hA (M:=n+1) (by omega) hx
     rw [h4 (n+1) (by omega)] at this
     cases this
theorem chkW_fea {rs:List Rl} (h:fea rs=true):chkW rs=(0,0):=by
 obtain ⟨st,c,hw⟩:=fea_iff.1 h
 have hF:=wgh_fin hw
 unfold wgh at hw
 unfold chkW wgh
 split at hw
 · injection hw with h1;cases h1
 · rename_i h0
   rw [if_neg h0]
   split at hw
   · injection hw with h1;cases h1
   · split at hw
     · injection hw with h1;cases h1
     · rfl
structure Fx (rs:List Rl) (L W:List Int):Prop where
 e:W.length=L.length
 b:∀ k,k<L.length→1≤bAt W k∧bAt W k≤64
 f:∀ (i:Nat) (hi:i<rs.length) (x:Int × Int),x∈fstS rs i→∀ k,plc L x.1≤k→k<L.length→bAt L k≤x.2→wnt L W rs[i]≤bAt W k
theorem touch_ov:∀ (a b:List (Int × Int)),touchL a b=true→∃ x∈a,∃ y∈b,x.1≤y.2∧y.1≤x.2
 | [],b,h=>by cases b <;> simp [touchL,touchF] at h
 | x::a,[],h=>by simp [touchL,touchF] at h
 | x::a,y::b,h=>by
  rw [touch_cons] at h
  split at h
  · obtain ⟨p,hp,q,hq,h1⟩:=touch_ov a (y::b) h
    exact ⟨p,List.mem_cons_of_mem _ hp,q,hq,h1⟩
  · split at h
    · obtain ⟨p,hp,q,hq,h1⟩:=touch_ov (x::a) b h
      exact ⟨p,hp,q,List.mem_cons_of_mem _ hq,h1⟩
    · exact ⟨x,List.mem_cons_self,y,List.mem_cons_self,by omega,by omega⟩
termination_by a b=>a.length+b.length
theorem grK_ge {L W:List Int} {hi:Int} (hS:L.Pairwise (· < ·)):∀ (f p:Nat) (n:Int) (k:Nat),p≤k→k<L.length→bAt L k≤hi→k<p+f→bAt W k≤grK L W hi f p n
 | 0,p,n,k,h1,_,_,h2=>by omega
 | f+1,p,n,k,h1,hk,hl,h2=>by
  rw [grK,if_pos ⟨by omega,Int.le_trans (rise_le hS h1 hk) hl⟩]
  by_cases e:p=k
  · subst e
    refine Int.le_trans ?_ (grK_mono f _ _)
    split <;> omega
  · exact grK_ge hS f (p+1) _ k (by omega) hk hl (by omega)
theorem grt_mono {L W:List Int} : ∀ (s:List (Int × Int)) (n:Int),n≤s.foldl (gr1 L W) n
 | [],n=>Int.le_refl n
 | x::s,n=>by
  rw [List.foldl_cons]
  exact Int.le_trans (grK_mono _ _ _) (grt_mono s _)
theorem grt_ge {L W:List Int} (hS:L.Pairwise (· < ·)):∀ (s:List (Int × Int)) (n:Int) (x:Int × Int),x∈s→∀ k,plc L x.1≤k→k<L.length→bAt L k≤x.2→bAt W k≤s.foldl (gr1 L W) n
 | [],n,x,h,k,_,_,_=>by cases h
 | y::s,n,x,h,k,h1,h2,h3=>by
  rw [List.foldl_cons]
  rcases List.mem_cons.1 h with rfl | h
  · exact Int.le_trans (grK_ge hS _ _ _ k h1 h2 h3 (by omega)) (grt_mono s _)
  · exact grt_ge hS s _ x h k h1 h2 h3
theorem grt_one_le {L W:List Int} (hS:L.Pairwise (· < ·)) {u:Int} (hu:u∈L) (h0:0≤bAt W (plc L u)):grt L W [(u,u)]≤bAt W (plc L u):=by
 refine grt_le _ h0 fun x hx j h1 h2 h3 => ?_
 simp at hx
 subst hx
 have ha:=plc_at hS hu
 by_cases e:plc L u=j
 · rw [e];exact Int.le_refl _
 · have:=rise_lt hS (show plc L u<j by simp at h1;omega) h2
   simp at h3
   omega
theorem bkI_may {rs:List Rl} : ∀ {k:Nat} {b:Pb},b∈bkI rs k→∃ r∈rs,∃ p∈backP r,p.k≠2∧b.us=mayB p
 | 0,b,hb=>by simp [bkI] at hb
 | k+1,b,hb=>by
  rw [bkI] at hb
  rcases List.mem_append.1 hb with hb | hb
  · exact bkI_may hb
  · obtain ⟨p,h1,h2,h3⟩:=pbs_mem2 hb
    cases hk:rs[k]? with
    | none=>rw [hk] at h1;simp at h1
    | some r=>
     rw [hk] at h1
     exact ⟨r,List.mem_of_getElem? hk,p,by simpa using h1,h2,h3⟩
theorem kind_ok {rs:List Rl} (hO:∀ r∈rs,Ok r) {r:Rl} (hr:r∈rs) {p:Pc} (hp:p∈backP r):p.k=1∨p.k=2∨p.k=3:=by
 rcases pc_ok ((hO r hr).pc p (List.mem_of_mem_drop hp)) with ⟨h1,_⟩ | ⟨h1,_⟩ | ⟨h1,_⟩ <;> omega
theorem mayB_some {r:Rl} (hO:Ok r) {p:Pc} (hp:p∈backP r) (h2:p.k≠2):mayB p≠[]:=by
 rcases pc_ok (hO.pc p (List.mem_of_mem_drop hp)) with ⟨h1,hw,_⟩ | ⟨h1,_⟩ | ⟨h1,_,h3,h4,hm⟩
 · unfold mayB
   rw [if_neg (by omega)]
   simp
 · exact absurd h1 h2
 · unfold mayB
   rw [if_pos h1]
   unfold matB at hm
   simp only [Bool.and_eq_true,decide_eq_true_eq] at hm
   have hy:p.y.toNat<r.key.length:=by omega
   have hk:keyAt r.key p.y=r.key[p.y.toNat]:=by simp [keyAt,hy]
   have:=lenU_ok (List.all_eq_true.1 hO.kS _ (List.getElem_mem hy))
   intro e
   rw [e,hk] at hm
   have h0:=hm.2
   rw [h0] at this
   simp [lenU,tot] at this
theorem gs_of {L W:List Int} {rs:List Rl} (hO:∀ r∈rs,Ok r) (hS:Srt (0::bords rs) L) (hW:∀ k,k<L.length→1≤bAt W k) {r:Rl} (hr:r∈rs) (n:Nat):∀ l:List Pc,(∀ p∈l,p∈backP r)→gs (grt L W) (pbs n l) n≤pcS L W l
 | [],_=>by simp [pcS,pbs,gs]
 | p::l,hl=>by
  have ih:=gs_of (W:=W) hO hS hW hr n l fun q hq=>hl q (List.mem_cons_of_mem _ hq)
  have hp:=hl p List.mem_cons_self
  simp only [pcS,pbs]
  rcases kind_ok hO hr hp with h1 | h1 | h1
  · rw [if_neg (by omega)]
    have hm:p.u∈L:=(hS.m _).2 (List.mem_cons_of_mem _ (mem_may hr hp (.inl h1) (x:=(p.u,p.u)) (by rw [mayB,if_neg (by omega)];simp)))
    have h0:=hW _ (plc_lt p.u (List.length_pos_of_mem hm))
    have:=grt_one_le (W:=W) hS.p hm (by omega)
    have e:mayB p=[(p.u,p.u)]:=by unfold mayB;rw [if_neg (by omega)]
    simp only [gs,if_pos,e]
    rw [pcW,if_pos h1]
    omega
  · rw [if_pos h1,pcW,if_neg (by omega),if_neg (by omega)];omega
  · rw [if_neg (by omega)]
    have e:mayB p=p.tl:=by unfold mayB;rw [if_pos h1]
    simp only [gs,if_pos,e]
    rw [pcW,if_neg (by omega),if_pos h1]
    omega
theorem wsum_gs {g:List (Int × Int)→Int} : ∀ {l:List Pb},(∀ b∈l,b.wt≤g b.us)→∀ n,wsum l n≤gs g l n
 | [],_,n=>by simp [gs,wsum]
 | b::l,h,n=>by
  have h1:=wsum_gs (fun x hx=>h x (List.mem_cons_of_mem _ hx)) n
  have h2:=h b List.mem_cons_self
  simp only [gs,wsum]
  split <;> omega
def wntI (L W:List Int) (rs:List Rl) (i:Nat):Int:=(rs[i]?.map (wnt L W)).getD 0
theorem wntI_at {L W:List Int} {rs:List Rl} {i:Nat} (h:i<rs.length):wntI L W rs i=wnt L W rs[i]:=by simp [wntI,h]
theorem fst_mem {rs:List Rl} {i:Nat} (hi:i<rs.length) {x:Int × Int} (hx:x∈fstS rs i):x.1∈bords rs∧x.2+1∈bords rs:=by
 rw [fstS_at hi] at hx
 exact ⟨mem_bords (List.getElem_mem hi) (List.mem_append_left _ (List.mem_flatMap.2 ⟨x,hx,by simp⟩)),mem_bords (List.getElem_mem hi) (List.mem_append_left _ (List.mem_flatMap.2 ⟨x,hx,by simp⟩))⟩
theorem Fx.fea {rs:List Rl} {L W:List Int} (h:Fx rs L W) (hS:Srt (0::bords rs) L) (hA:(allE rs).2=0) (hcp:∀ r∈rs,copB r=false) :
 ∃ st,wgh rs=(some st,0,0)∧∀ i (hi:i<rs.length),at0 st.ws i≤max 1 (wnt L W rs[i]):=by
 have hok:=allE_ok hA
 have hO:=hok.2
 have hpos:0<L.length:=List.length_pos_of_mem ((hS.m 0).2 (by simp))
 have husb:∀ j,j<(bkI rs rs.length).length→∃ r∈rs,∃ p∈backP r,p.k≠2∧(((bkI rs rs.length).map Pb.us)[j]?).getD []=mayB p:=fun j hj=>by
  obtain ⟨r,hr,p,hp,h2,e⟩:=bkI_may (List.getElem_mem hj)
  refine ⟨r,hr,p,hp,h2,?_⟩
  rw [List.getElem?_map,List.getElem?_eq_getElem hj]
  simpa using e
 have hmL:∀ {r:Rl} (_:r∈rs) {p:Pc} (_:p∈backP r) (_:p.k≠2) {y:Int × Int} (_:y∈mayB p),y.1∈L∧y.1≤y.2:=fun {r} hr {p} hp h2 {y} hy=>
  ⟨(hS.m _).2 (List.mem_cons_of_mem _ (mem_may hr hp (by have:=kind_ok hO hr hp;omega) hy)),((mayB_good (hO r hr) hp h2).1 y hy).1⟩
 have hsol:Sol rs (csI rs) ((bkI rs rs.length).map Pb.us) ((bkI rs rs.length).map Pb.r) (fun i=>max 1 (wntI L W rs i)) (fun j=>grt L W ((((bkI rs rs.length).map Pb.us)[j]?).getD [])):=by
  refine ⟨fun i j hi hj hT => ?_,fun st2 h1 h2 h3 i hi => ?_,fun i hi => ?_⟩
  · rw [csI_len] at hi
    simp only [List.length_map] at hj
    obtain ⟨r,hr,p,hp,h2,e⟩:=husb j hj
    rw [e] at hT ⊢
    obtain ⟨x,hx,y,hy,h4,h5⟩:=touch_ov _ _ hT
    have hxw:=((key_good hO hi).1 x hx).1
    obtain ⟨hyL,hyw⟩:=hmL hr hp h2 hy
    have hxL:x.1∈L:=(hS.m _).2 (List.mem_cons_of_mem _ (fst_mem hi hx).1)
    obtain ⟨u,hu,hux,huy,hu1,hu2⟩:∃ u∈L,x.1≤u∧y.1≤u∧u≤x.2∧u≤y.2:=by
     by_cases hc:x.1≤y.1
     · exact ⟨y.1,hyL,hc,Int.le_refl _,h5,hyw⟩
     · exact ⟨x.1,hxL,Int.le_refl _,by omega,hxw,h4⟩
    have hk:=plc_lt u hpos
    have hku:=plc_at hS.p hu
    have hge:∀ v∈L,v≤u→plc L v≤plc L u:=fun v hv hvu=>by
     have hv1:=plc_at hS.p hv
     rcases Nat.lt_or_ge (plc L u) (plc L v) with hlt | hlt
     · have:=rise_lt hS.p hlt (plc_lt v hpos)
       omega
     · exact hlt
    have h6:=h.f i hi x hx (plc L u) (hge _ hxL hux) hk (by omega)
    have h7:=grt_ge (W:=W) hS.p (mayB p) 0 y hy (plc L u) (hge _ hyL huy) hk (by omega)
    have h8:=(h.b _ hk).1
    have h9:bAt W (plc L u)≤grt L W (mayB p):=h7
    show max 1 (wntI L W rs i)≤grt L W (mayB p)
    rw [wntI_at hi]
    omega
  · rw [csI_len] at hi
    have h4:wsum st2.bk i≤gs (grt L W) st2.bk i:=wsum_gs (fun b hb=>by
     obtain ⟨j,hj,rfl⟩:=List.getElem_of_mem hb
     have hl2:st2.bk.length=(bkI rs rs.length).length:=by simpa using congrArg List.length h1
     have:=h3 j (by simp;omega)
     unfold wtAt at this
     rw [List.getElem?_eq_getElem hj,←h1,List.getElem?_map,List.getElem?_eq_getElem hj] at this
     simpa using this) i
    have h5:gs (grt L W) st2.bk i=gs (grt L W) (pbs i (backP rs[i])) i:=by
     rw [gs_same h2 h1,gs_bkI,if_pos hi,List.getElem?_eq_getElem hi]
     rfl
    have h6:=gs_of (W:=W) hO hS (fun k hk=>(h.b k hk).1) (List.getElem_mem hi) i (backP rs[i]) fun p hp=>hp
    show at0 (csI rs) i+wsum st2.bk i≤max 1 (wntI L W rs i)
    rw [csI_val hi,wntI_at hi]
    unfold wnt
    omega
  · rw [csI_len] at hi
    show max 1 (wntI L W rs i)≤64
    rw [wntI_at hi]
    have hne:fstS rs i≠[]:=by
     have hr:=hO _ (List.getElem_mem hi)
     have h0:=hr.k0
     have:=List.all_eq_true.1 hr.kS _ (List.getElem_mem h0)
     rw [fstS_at hi,show keyAt rs[i].key 0=rs[i].key[0] by simp [keyAt,h0]]
     intro e
     rw [e] at this
     simp [okS] at this
    obtain ⟨x,hx⟩:=List.exists_mem_of_ne_nil _ hne
    have hxL:x.1∈L:=(hS.m _).2 (List.mem_cons_of_mem _ (fst_mem hi hx).1)
    have hk:=plc_lt x.1 hpos
    have h1:=h.f i hi x hx (plc L x.1) (Nat.le_refl _) hk (by rw [plc_at hS.p hxL];exact ((key_good hO hi).1 x hx).1)
    have h2:=(h.b _ hk).2
    omega
 have hbd:Bd (csI rs) ((bkI rs rs.length).map Pb.us) (fun i=>max 1 (wntI L W rs i)) (fun j=>grt L W ((((bkI rs rs.length).map Pb.us)[j]?).getD [])) (stK rs rs.length):=by
  refine ⟨fun i hi => ?_,fun j hj => ?_⟩
  · rw [csI_len] at hi
    have h2:at0 (stK rs rs.length).ws i=1:=by
     rw [stK_all]
     simp [at0,hi]
    show at0 _ i≤max 1 _
    omega
  · simp only [List.length_map] at hj
    have h2:wtAt (stK rs rs.length).bk j=1:=by
     rw [stK_all]
     show wtAt (bkI rs rs.length) j=1
     unfold wtAt
     rw [List.getElem?_eq_getElem hj]
     exact (bkI_mem (List.getElem_mem hj)).2.1
    obtain ⟨r,hr,p,hp,h3,e⟩:=husb j hj
    show wtAt _ j≤grt L W _
    rw [e,h2]
    obtain ⟨y,hy⟩:=List.exists_mem_of_ne_nil _ (mayB_some (hO r hr) hp h3)
    obtain ⟨hyL,hyw⟩:=hmL hr hp h3 hy
    have hk:=plc_lt y.1 hpos
    have:=grt_ge (W:=W) hS.p (mayB p) 0 y hy (plc L y.1) (Nat.le_refl _) hk (by rw [plc_at hS.p hyL];exact hyw)
    exact Int.le_trans (h.b _ hk).1 this
 have hres:=settleAll_least hsol (csI_len _) rs.length 0 _ (by omega) (run_start hO hok.1) hbd
 obtain ⟨o,R,hR⟩:∃ o R,settleAll rs rs.length 0 (stK rs rs.length)=(o,R):=⟨_,_,rfl⟩
 rw [hR] at hres
 obtain ⟨h1,h2⟩:=hres
 simp only at h1
 subst h1
 refine ⟨R,by rw [wgh_of hA hcp,hR],fun i hi => ?_⟩
 have:=h2.w i (by rw [csI_len];exact hi)
 rw [←wntI_at hi]
 exact this
structure WA (rs:List Rl) (L W:List Int):Prop where
 e:W.length=L.length
 b:∀ k,k<L.length→1≤bAt W k∧bAt W k≤64
 c:∀ st,Fin rs st→WB rs st L W
theorem WA.in64 {rs:List Rl} {L W:List Int} (h:WA rs L W):In64 W:=fun j=>by
 by_cases hj:j<L.length
 · have:=h.b j hj
   omega
 · have:bAt W j=0:=by simp [bAt,h.e,Nat.le_of_not_lt hj]
   omega
theorem WA.tws {rs:List Rl} {L W:List Int} (h:WA rs L W):Go.Proofs.tws W≤64*L.length:=by
 have:=tws_bound W (fun i hi=>(h.in64 i).2)
 rw [h.e] at this
 exact this
theorem WA.set {rs:List Rl} {L W:List Int} (h:WA rs L W) {k:Nat} (hk:k<L.length) {i:Nat} (hi:i<rs.length) (hu:hasU (fstS rs i) (bAt L k)) (hv:validB (fstS rs i)=true) {n:Int} (h1:bAt W k<n) (h2:n≤64) (h3:∀ st,Fin rs st→n≤at0 st.ws i):WA rs L (W.set k n):=by
 refine ⟨by simp [h.e],fun j hj => ?_,fun st hF=>(h.c st hF).set hk hi hu hv h1 (h3 st hF)⟩
 rw [bAt_set (by rw [h.e];exact hk)]
 split
 · have:=(h.b k hk).1;omega
 · exact h.b j hj
def FxU (rs:List Rl) (L W:List Int) (i j a:Nat):Prop:=∀ (i':Nat) (hi:i'<rs.length) (j' k:Nat),(i'<i∨(i'=i∧j'<j)∨(i'=i∧j'=j∧k<a))→j'<(fstS rs i').length→plc L (rg (fstS rs i') j').1≤k→k<L.length→bAt L k≤(rg (fstS rs i') j').2→wnt L W rs[i']≤bAt W k
theorem FxU.zero {rs:List Rl} {L W:List Int} : FxU rs L W 0 0 0:=fun i' _ j' k h=>by omega
theorem FxU.enter {rs:List Rl} {L W:List Int} {i j a:Nat} (h:FxU rs L W i j 0) (ha:a=plc L (rg (fstS rs i) j).1):FxU rs L W i j a:=fun i' hi j' k h1 h2 h3 h4 h5=>by
 rcases h1 with h1 | ⟨rfl,h1⟩ | ⟨rfl,rfl,h1⟩
 · exact h i' hi j' k (.inl h1) h2 h3 h4 h5
 · exact h _ hi j' k (.inr (.inl ⟨rfl,h1⟩)) h2 h3 h4 h5
 · omega
theorem FxU.place {rs:List Rl} {L W:List Int} {i j a:Nat} (h:FxU rs L W i j a) (hx:∀ hi:i<rs.length,wnt L W rs[i]≤bAt W a):FxU rs L W i j (a+1):=fun i' hi j' k h1 h2 h3 h4 h5=>by
 rcases h1 with h1 | ⟨rfl,h1⟩ | ⟨rfl,rfl,h1⟩
 · exact h i' hi j' k (.inl h1) h2 h3 h4 h5
 · exact h _ hi j' k (.inr (.inl ⟨rfl,h1⟩)) h2 h3 h4 h5
 · by_cases e:k=a
   · subst e;exact hx hi
   · exact h _ hi _ k (.inr (.inr ⟨rfl,rfl,by omega⟩)) h2 h3 h4 h5
theorem FxU.range {rs:List Rl} {L W:List Int} {i j a:Nat} (h:FxU rs L W i j a) (hS:L.Pairwise (· < ·)) (hx:a<L.length→(rg (fstS rs i) j).2<bAt L a):FxU rs L W i (j+1) 0:=fun i' hi j' k h1 h2 h3 h4 h5=>by
 rcases h1 with h1 | ⟨rfl,h1⟩ | ⟨rfl,rfl,h1⟩
 · exact h i' hi j' k (.inl h1) h2 h3 h4 h5
 · by_cases e:j'=j
   · subst e
     by_cases hk:k<a
     · exact h _ hi _ k (.inr (.inr ⟨rfl,rfl,hk⟩)) h2 h3 h4 h5
     · have h6:=hx (by omega)
       have h7:=rise_le hS (show a≤k by omega) h4
       omega
   · exact h _ hi j' k (.inr (.inl ⟨rfl,by omega⟩)) h2 h3 h4 h5
 · omega
theorem FxU.rule {rs:List Rl} {L W:List Int} {i j:Nat} (h:FxU rs L W i j 0) (hj:(fstS rs i).length≤j):FxU rs L W (i+1) 0 0:=fun i' hi j' k h1 h2 h3 h4 h5=>by
 rcases h1 with h1 | ⟨rfl,h1⟩ | ⟨rfl,rfl,h1⟩
 · by_cases e:i'=i
   · subst e
     exact h _ hi j' k (.inr (.inl ⟨rfl,by omega⟩)) h2 h3 h4 h5
   · exact h i' hi j' k (.inl (by omega)) h2 h3 h4 h5
 · omega
 · omega
theorem WA.fx {rs:List Rl} {L W:List Int} (h:WA rs L W) {i:Nat} (hU:FxU rs L W i 0 0) (hi:rs.length≤i):Fx rs L W:=⟨h.e,h.b,fun i' hi' x hx k h1 h2 h3=>by
 obtain ⟨j,hj,rfl⟩:=List.getElem_of_mem hx
 refine hU i' hi' j k (.inl (by omega)) hj ?_ h2 ?_
 · rw [rg_lt hj];exact h1
 · rw [rg_lt hj];exact h3⟩
structure LT (w1:World) (rs:List Rl) (lv:Value) (L:List Int) (wr:World) (wv:Value) (W:List Int):Prop where
 blk:wr.heap[w1.heap.size]? = some (.cells #[lv,wv] 89 (0,0))
 own:OwnI wr (w1.heap.size+1) wv W
 bel:Below w1.heap.size w1 wr
 wb:WA rs L W
theorem LT.grown {w1:World} {rs:List Rl} {lv:Value} {L:List Int} {wr wr':World} {wv:Value} {W:List Int} (h:LT w1 rs lv L wr wv W) (k:Grown wr wr'):LT w1 rs lv L wr' wv W:=
 ⟨blk_below h.blk k.below (blk_lt h.blk),h.own.below k.below (Nat.le_refl _),h.bel.trans (k.below.mono h.bel.size),h.wb⟩
theorem LT.form {w1:World} {rs:List Rl} {lv:Value} {L:List Int} {wr:World} {wv:Value} {W:List Int} (h:LT w1 rs lv L wr wv W) (hn:0<L.length) :
 ∃ g c:Nat,wv = .slice (some ⟨g,0,none⟩) L.length c∧L.length≤c∧(∀ j,j<L.length→wr.cell? ⟨g,j,none⟩=some (.int .i64 (bAt W j)))∧(∀ j,wr.frozen? ⟨g,j,none⟩=false) ∧
  ∀ (k:Nat) (n:Int),WA rs L (W.set k n)→LT w1 rs lv L (wr.setCell ⟨g,k,none⟩ (.int .i64 n)) wv (W.set k n):=by
 have ho:=h.own
 unfold OwnI at ho
 obtain ⟨g,c,hv,hb,hg⟩:=World.ownsRow.form ho (by rw [h.wb.e];exact hn)
 subst hv
 have hs:=fun k n=>(World.ownsRow.stored ho k (.int .i64 n)).1
 have hc:W.length≤c:=by obtain ⟨_,c',e,hcc,_⟩:=h.own.ir;injection e with _ _ e3;omega
 have hl:W.length=L.length:=h.wb.e
 refine ⟨g,c,by rw [hl],by omega,fun j hj => ?_,fun j=>World.ownsRow.frozenAt ho j,fun k n hw=>⟨?_,?_,h.bel.setCell (by show _≤g;omega) _,hw⟩⟩
 · rw [World.ownsRow.cellAt ho j (by omega)]
   simp [ints,bAt,hl,hj]
 · rw [turns_set wr g k _ _ (by omega)];exact h.blk
 · unfold OwnI
   rw [ints_set,List.length_set]
   exact hs k n
theorem LT.sc {w1:World} {rs:List Rl} {lv:Value} {L:List Int} {wr:World} {wv:Value} {W:List Int} (h:LT w1 rs lv L wr wv W) (hL:IR w1 lv L) (hn:0<L.length) (hN:L.length≤4611686018427387903):SC wr lv wv L W:=
 ⟨hL.below h.bel (Nat.le_refl _),h.own.ir,h.wb.e,hN,hn,h.wb.in64⟩
theorem ir_cells {w:World} {v:Value} {l:List Int} (h:IR w v l) {B:Nat} (hb:w.heap[B]? = some (.cells #[.slice none 0 0,.slice none 0 0] 89 (0,0))) {x y:Value} : IR ((w.setCell ⟨B,0,none⟩ x).setCell ⟨B,1,none⟩ y) v l:=by
 obtain ⟨a,cap,h1,h2,h3 | ⟨g,o,h3,h4⟩⟩:=h
 · exact ⟨a,cap,h1,h2,.inl h3⟩
 · refine ⟨a,cap,h1,h2,.inr ⟨g,o,h3,fun j hj => ?_⟩⟩
   have hc:=h4 j hj
   have hne:g≠B:=fun e=>by
    subst e
    rw [cell_of hb] at hc
    rcases e2:o+j with _ | _ | n <;> simp [e2] at hc
   rw [cell_same (turns_set _ _ _ _ g hne),cell_same (turns_set _ _ _ _ g hne)]
   exact hc
def LR (w1:World) (rs:List Rl) (lv:Value) (L W0:List Int) (wr:World) (m:Bool) (P:Prop):Prop:=∃ wv W,LT w1 rs lv L wr wv W∧tws W0≤tws W∧(m=true→tws W0<tws W)∧(m=false→W=W0∧P)
theorem LR.grown {w1:World} {rs:List Rl} {lv:Value} {L W0:List Int} {wr wr':World} {m:Bool} {P:Prop} (h:LR w1 rs lv L W0 wr m P) (k:Grown wr wr'):LR w1 rs lv L W0 wr' m P:=by
 obtain ⟨wv,W,h1,h2⟩:=h
 exact ⟨wv,W,h1.grown k,h2⟩
theorem LR.imp {w1:World} {rs:List Rl} {lv:Value} {L W0:List Int} {wr:World} {m:Bool} {P Q:Prop} (h:LR w1 rs lv L W0 wr m P) (k:P→Q):LR w1 rs lv L W0 wr m Q:=by
 obtain ⟨wv,W,h1,h2,h3,h4⟩:=h
 exact ⟨wv,W,h1,h2,h3,fun e=>⟨(h4 e).1,k (h4 e).2⟩⟩
def LeA (w:World) (rs:List Rl) (e:Ending) (w':World):Prop:=∃ lv wv,IsSl lv∧IsSl wv∧e = .returned (.tuple #[.agg #[lv,wv],.bool (fea rs)])∧Below w.heap.size w w'∧(fea rs=true→∃ L W,IR w' lv L∧IR w' wv W∧L.length≤4500000∧Srt (0::bords rs) L∧Fx rs L W∧∀ st,Fin rs st→WB rs st L W)
set_option maxHeartbeats 32000000 in
theorem leastA (v:Value) (rs:List Rl) (w:World) (h:PsR w v rs) (hA:(allE rs).2=0) (hcp:∀ r∈rs,copB r=false):Calls Tryz.prog 54 #[v] w (LeA w rs):=by
 have HF0:Hid (rs.length≤256∧∀ r∈rs,Ok r):=allE_ok hA
 have HFX:Hid (∀ L W,Srt (0::bords rs) L→Fx rs L W→fea rs=true):=fun L W h1 h2=>by
  obtain ⟨st,hw,_⟩:=h2.fea h1 hA hcp
  exact fea_iff.2 ⟨st,_,hw⟩
 clear hA hcp
 have HP0:Hid (PsR w v rs):=h
 have HBo:Hid (∀ V,Grown w V→Calls Tryz.prog 86 #[v] V (BoQ V rs)):=fun V hg=>borders_any v rs V (h.grown hg) HF0.out.2 (by have:=HF0.out.1;omega)
 obtain ⟨ra,rc,hv,hx1,hx2⟩:=h
 subst hv
 clear hx1 hx2
 obtain ⟨n,hN⟩:∃ n,rs.length=n:=⟨_,rfl⟩
 have HN:Hid (rs.length=n):=hN
 have hnI:(n:Int)≤256:=by have:=HF0.out.1;omega
 rw [hN] at HP0 HBo ⊢
 clear hN
 go_enter Tryz.func54,Tryz.ntmps54
 go_wp2_with fail
 obtain ⟨wA,hwA⟩:∃ wA,wA=w.alloc (.cells #[.slice none 0 0,.slice none 0 0] 89):=⟨_,rfl⟩
 have HGA:Hid (Grown w wA):=by show Grown _ _;rw [hwA];exact (Grown.refl _).alloc _
 have HBA:Hid (wA.heap[w.heap.size]? = some (.cells #[.slice none 0 0,.slice none 0 0] 89 (0,0))):=by show _=_;rw [hwA];exact heap_alloc_new _ _
 try rw [←hwA]
 refine (HBo.out _ HGA.out).mono ?_
 rintro e w1 ⟨lv,L,rfl,hIL,hSL,hB1⟩
 have HIL:Hid (IR w1 lv L):=hIL
 have HSL:Hid (Srt (0::bords rs) L):=hSL
 have HP:Hid (PsR w1 (.slice ra n rc) rs):=HP0.out.below (HGA.out.below.trans (hB1.mono HGA.out.size)) (Nat.le_refl _)
 have HB1:Hid (Below w.heap.size w w1∧w1.heap[w.heap.size]? = some (.cells #[.slice none 0 0,.slice none 0 0] 89 (0,0))):=⟨HGA.out.below.trans (hB1.mono HGA.out.size),blk_below HBA.out hB1 (blk_lt HBA.out)⟩
 have HLl:Hid (0<L.length∧L.length≤4500000):=by
  refine ⟨List.length_pos_of_mem ((hSL.m 0).2 (by simp)),?_⟩
  have h1:=hSL.n
  have h2:=bords_len HF0.out.2
  have h3:=HF0.out.1
  rw [List.length_cons] at h1
  omega
 obtain ⟨la,lc,hlv,hx1,hx2⟩:=hIL
 subst hlv
 clear hx1 hx2
 obtain ⟨N,hNL⟩:∃ N,L.length=N:=⟨_,rfl⟩
 have HNL:Hid (L.length=N):=hNL
 rw [hNL] at HIL HLl ⊢
 have hNI:(N:Int)≤4500000:=by have:=HLl.out;omega
 have hN0:(0:Int)<(N:Int):=by have:=HLl.out;omega
 clear hSL hB1 hNL HBo HP0 HBA HGA hwA
 go_wp2
 obtain ⟨w2,hw2⟩:∃ w2,w2=w1.alloc (.cells #[.slice la N lc,.slice none 0 0] 89):=⟨_,rfl⟩
 obtain ⟨sp,hsp⟩:∃ sp,w1.heap.size=sp:=⟨_,rfl⟩
 have HSP:Hid (w1.heap.size=sp):=hsp
 have H2:Hid (w2.heap[sp]? = some (.cells #[.slice la N lc,.slice none 0 0] 89 (0,0))∧Below sp w1 w2):=by
  rw [hw2,←hsp]
  exact ⟨heap_alloc_new _ _,((Grown.refl w1).alloc _).below⟩
 rw [←hw2,hsp]
 clear hw2 hsp
 go_loopw [5] (fun vi wr=>∃ k:Nat,vi = .int .i64 k∧k≤N∧Hid (∃ wv,wr.heap[sp]? = some (.cells #[.slice la N lc,wv] 89 (0,0))∧OwnI wr (sp+1) wv (List.replicate k 1)∧Below sp w1 wr)) (fun vi _=>N - (intOf vi).toNat)
 case atStart=>exact ⟨0,rfl,by omega,_,H2.out.1,OwnI.nil _ _,H2.out.2⟩
 case round=>
  clear H2
  obtain ⟨k,rfl,hk,HX⟩:=hrel
  have hk0:(0:Int)≤(k:Int):=by omega
  obtain ⟨wv,hb,ho,hB⟩:=HX.out
  have d0:wr.cell? ⟨sp,0,none⟩=some (.slice la N lc):=by rw [cell_of hb];simp
  have d1:wr.cell? ⟨sp,1,none⟩=some wv:=by rw [cell_of hb];simp
  by_cases hlt:k<N
  · have hlt':(k:Int)<(N:Int):=by omega
    obtain ⟨x1,x2,x3,hwv⟩:=ho.ir.sl
    subst hwv
    have HY:Hid (∀ ob,OwnI (wr.alloc ob) (sp+1) (.slice x1 x2 x3) (List.replicate k 1)∧sp+1≤(wr.alloc ob).heap.size∧(wr.alloc ob).heap[sp]? = some (.cells #[.slice la N lc,.slice x1 x2 x3] 89 (0,0))∧Below sp w1 (wr.alloc ob)):=fun ob=>by
     have g:=(Grown.refl wr).alloc ob
     exact ⟨ho.below g.below (Nat.le_refl _),by have:=blk_lt hb;have:=g.size;omega,blk_below hb g.below (blk_lt hb),hB.trans (g.below.mono (by have:=hB.size;have:=HSP.out;omega))⟩
    have hkN:(List.replicate k (1:Int)).length+1≤8796093022208:=by simp;omega
    clear hb ho hB HX
    go_wp2_with (at_builtin;go_must (refine push_I rfl _ _ 49 rfl Tryz.underlying49 (sp+1) _ (List.replicate k 1) rfl (HY.out _).1 _ _ 1 rfl (by (first | (simp;done) | exact new_cell _ _ _ _ rfl)) hkN (HY.out _).2.1 ?_;intro v3 w3 hO3 hB3;obtain ⟨y1,y2,y3,hv3⟩:=hO3.ir.sl;subst hv3;have HZ3:Hid (OwnI w3 (sp+1) (.slice y1 y2 y3) (List.replicate (k+1) 1)∧w3.heap[sp]? = some (.cells #[.slice la N lc,.slice x1 x2 x3] 89 (0,0))∧Below sp w1 w3):=⟨by rw [List.replicate_succ'];exact hO3,blk_below (HY.out _).2.2.1 hB3 (Nat.lt_succ_self _),(HY.out _).2.2.2.trans (hB3.mono (Nat.le_succ _))⟩;have f1:w3.cell? ⟨sp,1,none⟩=some (.slice x1 x2 x3):=(by rw [cell_of HZ3.out.2.1];simp);have f2:w3.frozen? ⟨sp,1,none⟩=false:=free_of HZ3.out.2.1;clear hO3 hB3))
    try go_wp2
    refine ⟨⟨k+1,by go_num,by omega,.slice y1 y2 y3,?_,?_,?_⟩,by simp [intOf];omega⟩
    · rw [set_heap HZ3.out.2.1];rfl
    · exact HZ3.out.1.turn fun b hb=>turns_set _ _ _ _ b (by omega)
    · exact HZ3.out.2.2.setCell (Nat.le_refl _) _
  · have hge:¬ (k:Int)<(N:Int):=by omega
    have HLS:Hid (∃ wv W,LT w1 rs (.slice la N lc) L wr wv W):=by
     have hkN:k=N:=by omega
     subst hkN
     refine ⟨wv,List.replicate k 1,by rw [HSP.out];exact hb,by rw [HSP.out];exact ho,by rw [HSP.out];exact hB,by simp [HNL.out],fun j hj => ?_,fun st hF=>⟨by simp [HNL.out],fun j hj => ?_⟩⟩
     · have hj2:j<k:=by rw [HNL.out] at hj;exact hj
       have e:bAt (List.replicate k 1) j=1:=by simp [bAt,hj2]
       rw [e]
       omega
     · have hj2:j<k:=by rw [HNL.out] at hj;exact hj
       have e:bAt (List.replicate k 1) j=1:=by simp [bAt,hj2]
       rw [e]
       exact ⟨Int.le_refl _,(hF.wK_in _).1⟩
    clear HX hb ho hB d1
    go_wp2
    go_loopg [6] (64*N+1) (fun f v6 wr=>∃ m,v6 = .bool m∧Hid (∃ wv W,LT w1 rs (.slice la N lc) L wr wv W∧(m=true→64*N<f+tws W)∧(m=false→Fx rs L W)))
    case atStart=>
     obtain ⟨wv,W,h1⟩:=HLS.out
     exact ⟨true,rfl,wv,W,h1,fun _=>by omega,by simp⟩
    case round=>
     clear HLS d0
     obtain ⟨m,rfl,HX⟩:=hrel
     cases m with
     | false=>
      obtain ⟨wv,W,h1,_,hfx⟩:=HX.out
      have HIW:Hid (IR wr wv W∧IR wr (.slice la N lc) L∧Fx rs L W∧∀ st,Fin rs st→WB rs st L W):=⟨h1.own.ir,HIL.out.below h1.bel (Nat.le_refl _),hfx rfl,h1.wb.c⟩
      clear hfx
      have hb:=h1.blk
      rw [HSP.out] at hb
      obtain ⟨gw,cw,hwv,_⟩:=h1.form (by rw [HNL.out];exact HLl.out.1)
      rw [HNL.out] at hwv
      subst hwv
      have hb0:=blk_below HB1.out.2 h1.bel (by have:=blk_lt HB1.out.2;omega)
      have d0:wr.cell? ⟨sp,0,none⟩=some (.slice la N lc):=by rw [cell_of hb];simp
      have d1:wr.cell? ⟨sp,1,none⟩=some (.slice (some ⟨gw,0,none⟩) N cw):=by rw [cell_of hb];simp
      have e0:wr.cell? ⟨w.heap.size,0,none⟩=some (.slice none 0 0):=by rw [cell_of hb0];simp
      have e1:wr.cell? ⟨w.heap.size,1,none⟩=some (.slice none 0 0):=by rw [cell_of hb0];simp
      have fz:∀ j,wr.frozen? ⟨w.heap.size,j,none⟩=false:=fun j=>free_of hb0
      have HBw:Hid (Below w.heap.size w wr):=HB1.out.1.trans (h1.bel.mono HB1.out.1.size)
      have HB0:Hid (wr.heap[w.heap.size]? = some (.cells #[.slice none 0 0,.slice none 0 0] 89 (0,0))):=hb0
      clear HX h1 hb hb0
      go_wp2
      refine ret_sc rfl rfl rfl (set_heap (set_heap HB0.out)) ?_
      have hfe:=HFX.out L _ HSL.out HIW.out.2.2.1
      refine ⟨_,_,⟨_,_,_,rfl⟩,⟨_,_,_,rfl⟩,by rw [hfe],(HBw.out.setCell (Nat.le_refl _) _).setCell (Nat.le_refl _) _,fun _ => ?_⟩
      exact ⟨L,_,ir_cells HIW.out.2.1 HB0.out,ir_cells HIW.out.1 HB0.out,by rw [HNL.out];exact HLl.out.2,HSL.out,HIW.out.2.2.1,HIW.out.2.2.2⟩
     | true=>
      obtain ⟨wv0,W0,h1,h2,_⟩:=HX.out
      have HM:Hid (64*N<gk+tws W0):=h2 rfl
      have HQ0:Hid (LR w1 rs (.slice la N lc) L W0 wr false (FxU rs L W0 0 0 0)):=⟨wv0,W0,h1,Nat.le_refl _,by simp,fun _=>⟨rfl,FxU.zero⟩⟩
      clear HX h1 h2
      go_wp2
      go_loopw [6,7] (fun v6 v7 wr=>∃ (m:Bool) (k:Nat),v6 = .bool m∧v7 = .int .i64 k∧k≤n∧Hid (LR w1 rs (.slice la N lc) L W0 wr m (FxU rs L W0 k 0 0))) (fun _ v7 _=>n - (intOf v7).toNat)
      case atStart=>exact ⟨false,0,rfl,rfl,by omega,HQ0⟩
      case round=>
       clear HQ0
       obtain ⟨m,i,rfl,rfl,hi,HQ⟩:=hrel
       have hi0:(0:Int)≤(i:Int):=by omega
       by_cases hlti:i<n
       · have hlti':(i:Int)<(n:Int):=by omega
         go_upto_block 5 with fail
         go_cut [6] (fun s wx=>∃ m,s = .bool m∧Hid (LR w1 rs (.slice la N lc) L W0 wx m (FxU rs L W0 (i+1) 0 0)))
         case rest=>
          obtain ⟨m',rfl,HQ'⟩:=hcut
          go_wp2
          exact ⟨⟨m',i+1,rfl,by go_num,by omega,HQ'⟩,by simp [intOf];omega⟩
         case first=>
          have hil:i<rs.length:=by rw [HN.out];exact hlti
          obtain ⟨wv,W,hLS,ht1,ht2,ht3⟩:=HQ.out
          obtain ⟨gw,cw,hwv,hcw,hcel,hfz,hset⟩:=hLS.form (by rw [HNL.out];exact HLl.out.1)
          rw [HNL.out] at hwv
          subst hwv
          have hblk:=hLS.blk
          rw [HSP.out] at hblk
          obtain ⟨a',c',e',_,hPr⟩:=HP.out
          obtain ⟨g,o,ha',hPd⟩:=hPr.resolve_left (fun e=>by rw [e] at hil;simp at hil)
          injection e' with e1 e2 e3
          clear e2 e3
          rw [ha'] at e1
          subst e1
          obtain ⟨av,kv,pv,rv,q0,q1,q2,q3,q4,q5,q6,hR⟩:=hPd i hil
          have q0:=cell_below q0 hLS.bel (Nat.le_refl _)
          have q1:=cell_below q1 hLS.bel (Nat.le_refl _)
          have q2:=cell_below q2 hLS.bel (Nat.le_refl _)
          have q3:=cell_below q3 hLS.bel (Nat.le_refl _)
          have q4:=cell_below q4 hLS.bel (Nat.le_refl _)
          have q5:=cell_below q5 hLS.bel (Nat.le_refl _)
          have q6:=cell_below q6 hLS.bel (Nat.le_refl _)
          have hOk:=HF0.out.2 _ (List.getElem_mem hil)
          have hWn:=fun st (hF:Fin rs st)=>wnt_le hF HSL.out (hLS.wb.c st hF) hil
          have HC0:=fun (V:World) (hg:Grown wr V)=>wants_any (.slice la N lc) (.slice (some ⟨gw,0,none⟩) N cw) L W rs[i] av kv pv rv V ((hLS.grown hg).sc HIL.out (by rw [HNL.out];exact HLl.out.1) (by rw [HNL.out];have:=HLl.out.2;omega)) ((hR.below hLS.bel (Nat.le_refl _)).grown hg) hOk
          obtain ⟨x,hx⟩:∃ x,wnt L W rs[i]=x:=⟨_,rfl⟩
          rw [hx] at hWn
          have HXW:Hid (∀ st,Fin rs st→x≤at0 st.ws i):=hWn
          have HX64:Hid (64<x→fea rs=false):=fun h64=>by
           cases hf:fea rs with
           | false=>rfl
           | true=>
            obtain ⟨st,c,hw⟩:=fea_iff.1 hf
            have hF:=wgh_fin hw
            have h1:=hWn st hF
            have h2:=(hF.ws_in hil).2
            omega
          have HC:Hid (∀ m os,Calls Tryz.prog 87 #[.agg #[.slice la N lc,.slice (some ⟨gw,0,none⟩) N cw],.agg #[.bool rs[i].bg,av,kv,pv,.bool rs[i].en,rv,.int .i64 rs[i].cu]] (Go.Sort.grow (wr.drewN m) os) fun e w'=>e = .returned (.int .i64 x)∧Grown (Go.Sort.grow (wr.drewN m) os) w'):=fun m os=>by
           have:=HC0 _ ((Grown.refl wr).quiet m os)
           rw [hx] at this;exact this
          have HFS:=first_valid HF0.out.2 hil
          obtain ⟨ka,kc,hkv,hkc,hks⟩:=hR.k
          obtain ⟨kg,ko,hka,hkd⟩:=hks.resolve_left (fun e=>by have:=hOk.k0;rw [e] at this;simp at this)
          subst hka
          obtain ⟨sv,qs,hs⟩:=hkd 0 hOk.k0
          rw [Nat.add_zero] at qs
          have qs:=cell_below qs hLS.bel (Nat.le_refl _)
          obtain ⟨F,hFF⟩:∃ F,fstS rs i=F:=⟨_,rfl⟩
          have HFE:Hid (fstS rs i=F):=hFF
          have hs2:Rs w1 sv F:=by
           have hk:=hOk.k0
           have e:keyAt rs[i].key 0=rs[i].key[0]:=by simp [keyAt,hk]
           rw [←hFF,fstS_at hil,e];exact hs
          have HFV:Hid (validB F=true):=by have:=HFS.1;rw [hFF] at this;exact this
          have hF512:F.length≤512:=by have:=HFS.2.1;rw [hFF] at this;exact this
          obtain ⟨kn,hkn⟩:∃ kn,rs[i].key.length=kn:=⟨_,rfl⟩
          have hkn0:(0:Int)<(kn:Int):=by have:=hOk.k0;omega
          have hkn1:0<kn:=by have:=hOk.k0;omega
          rw [hkn] at hkv
          subst hkv
          obtain ⟨a1,n1,c1,rfl⟩:=hR.a.sl
          obtain ⟨a3,n3,c3,rfl⟩:=hR.p.sl
          obtain ⟨a5,n5,c5,rfl⟩:=hR.r.sl
          have HSV:Hid (Rs w1 sv F):=hs2
          obtain ⟨sa,sc,hsv,hsc1,hsc2⟩:=hs2
          subst hsv
          obtain ⟨sn,hsn⟩:∃ sn,F.length=sn:=⟨_,rfl⟩
          have HSN:Hid (F.length=sn):=hsn
          rw [hsn] at HSV qs hF512
          have hsnI:(sn:Int)≤512:=by omega
          generalize rs[i].bg=xb at q0 HC
          generalize rs[i].en=xe at q4 HC
          generalize rs[i].cu=xc at q6 HC
          have k0:=fun m os=>((Grown.refl wr).quiet m os).cellv (show wr.cell? ⟨sp,0,none⟩=some (.slice la N lc) by rw [cell_of hblk];simp)
          have k1:=fun m os=>((Grown.refl wr).quiet m os).cellv (show wr.cell? ⟨sp,1,none⟩=some (.slice (some ⟨gw,0,none⟩) N cw) by rw [cell_of hblk];simp)
          have p0:=fun m os=>((Grown.refl wr).quiet m os).cellv q0
          have p1:=fun m os=>((Grown.refl wr).quiet m os).cellv q1
          have p2:=fun m os=>((Grown.refl wr).quiet m os).cellv q2
          have p3:=fun m os=>((Grown.refl wr).quiet m os).cellv q3
          have p4:=fun m os=>((Grown.refl wr).quiet m os).cellv q4
          have p5:=fun m os=>((Grown.refl wr).quiet m os).cellv q5
          have p6:=fun m os=>((Grown.refl wr).quiet m os).cellv q6
          have ps:=fun m os=>((Grown.refl wr).quiet m os).cellv qs
          have HQ1:LR w1 rs (.slice la N lc) L W0 wr m (FxU rs L W0 i 0 0∧wntI L W0 rs i=x):=⟨_,_,hLS,ht1,ht2,fun hm=>⟨(ht3 hm).1,(ht3 hm).2,by rw [wntI_at hil,←(ht3 hm).1];exact hx⟩⟩
          have HQG:Hid (∀ m' os,LR w1 rs (.slice la N lc) L W0 (Go.Sort.grow (wr.drewN m') os) m (FxU rs L W0 i 0 0∧wntI L W0 rs i=x)):=fun m' os=>HQ1.grown ((Grown.refl wr).quiet m' os)
          clear HQ HQ1 ht3 hLS ht1 ht2 hcw hcel hfz hset hblk hPr hPd ha' q0 q1 q2 q3 q4 q5 q6 qs hR hOk hWn HC0 hx HFS hkc hks hkd hs hFF hkn hsc1 hsc2 hsn
          go_wp2
          refine wp_region_quiet_grown mixed (by kernel_rfl) ?_
          repeat (go_big_quiet_step ((go_at_call 87;exact grown_of (HC.out _ _))))
          refine wpQuiet_nil ?_
          intro _ hw'
          obtain ⟨⟨nq,osq⟩,hw''⟩:=hw'
          subst hw''
          obtain ⟨wB,hwB⟩:∃ wB,wB=Go.Sort.grow (wr.drewN nq) osq:=⟨_,rfl⟩
          have r2:=p2 nq osq
          have rS:=ps nq osq
          have HQB:Hid (LR w1 rs (.slice la N lc) L W0 wB m (FxU rs L W0 i 0 0∧wntI L W0 rs i=x)):=by rw [hwB];exact HQG.out nq osq
          clear k0 k1 p0 p1 p2 p3 p4 p5 p6 ps HC HQG
          simp only [←hwB] at r2 rS ⊢
          clear hwB
          go_wp2
          go_loopw [6,10] (fun v6 v10 wr=>∃ (m:Bool) (k:Nat),v6 = .bool m∧v10 = .int .i64 k∧k≤sn∧Hid (LR w1 rs (.slice la N lc) L W0 wr m (FxU rs L W0 i k 0∧wntI L W0 rs i=x))) (fun _ v10 _=>sn - (intOf v10).toNat)
          case atStart=>exact ⟨m,0,rfl,rfl,by omega,HQB⟩
          case round=>
           clear HQB r2 rS
           obtain ⟨m,j,rfl,rfl,hj,HQ⟩:=hrel
           have hj0:(0:Int)≤(j:Int):=by omega
           by_cases hltj:j<sn
           · have hltj':(j:Int)<(sn:Int):=by omega
             go_upto_block 7 with fail
             go_cut [6] (fun s wx=>∃ m,s = .bool m∧Hid (LR w1 rs (.slice la N lc) L W0 wx m (FxU rs L W0 i (j+1) 0∧wntI L W0 rs i=x)))
             case rest=>
              obtain ⟨m',rfl,HQ'⟩:=hcut
              go_wp2
              exact ⟨⟨m',j+1,rfl,by go_num,by omega,HQ'⟩,by simp [intOf];omega⟩
             case first=>
              have hjF:j<F.length:=by rw [HSN.out];exact hltj
              have hil:i<rs.length:=by rw [HN.out];exact hlti
              obtain ⟨wv,W,hLS,ht1,ht2,ht3⟩:=HQ.out
              have hblk:=hLS.blk
              rw [HSP.out] at hblk
              obtain ⟨sa',sc',es,_,hsr⟩:=HSV.out
              obtain ⟨sg,so,hsa,hsd⟩:=hsr.resolve_left (fun e=>by rw [e] at hjF;simp at hjF)
              injection es with e1 e2 e3
              clear e2 e3
              rw [hsa] at e1
              subst e1
              obtain ⟨c1,c2⟩:=hsd j hjF
              have c1:=cell_below c1 hLS.bel (Nat.le_refl _)
              have c2:=cell_below c2 hLS.bel (Nat.le_refl _)
              have HFI:Hid (∀ k,plc L (rg F j).1≤k→k<N→bAt L k≤(rg F j).2→hasU F (bAt L k)):=fun k h1 h2 h3=>by
               have:=first_in HSL.out hil (j:=j) (k:=k) (by rw [HFE.out];exact hjF) (by rw [HFE.out];exact h1) (by rw [HNL.out];exact h2) (by rw [HFE.out];exact h3)
               rw [HFE.out] at this;exact this
              have hplt:=plc_lt (rg F j).1 (show 0<L.length by rw [HNL.out];exact HLl.out.1)
              rw [HNL.out] at hplt
              have HC0:=fun (V:World) (hg:Grown wr V)=>place_any (.slice la N lc) L (rg F j).1 V (HIL.out.below ((hLS.grown hg).bel) (Nat.le_refl _)) (by rw [HNL.out];have:=HLl.out.2;omega)
              obtain ⟨lo,hlo⟩:∃ lo,(rg F j).1=lo:=⟨_,rfl⟩
              obtain ⟨hh,hhh⟩:∃ hh,(rg F j).2=hh:=⟨_,rfl⟩
              rw [hlo] at c1 HFI hplt HC0
              rw [hhh] at c2 HFI
              have HHH:Hid ((rg F j).2=hh):=hhh
              obtain ⟨pl,hpl⟩:∃ pl,plc L lo=pl:=⟨_,rfl⟩
              rw [hpl] at HFI hplt
              have HC:Hid (∀ m os,Calls Tryz.prog 88 #[.slice la N lc,.int .i64 lo] (Go.Sort.grow (wr.drewN m) os) fun e w'=>e = .returned (.int .i64 pl)∧Grown (Go.Sort.grow (wr.drewN m) os) w'):=fun m os=>(HC0 _ ((Grown.refl wr).quiet m os)).mono fun e w' ⟨h1,h2⟩=>⟨by rw [h1,hpl],by rw [h2];exact Grown.refl _⟩
              have k0:=fun m os=>((Grown.refl wr).quiet m os).cellv (show wr.cell? ⟨sp,0,none⟩=some (.slice la N lc) by rw [cell_of hblk];simp)
              have k1:=fun m os=>((Grown.refl wr).quiet m os).cellv c1
              have HPL:Hid (pl=plc L (rg (fstS rs i) j).1):=by rw [HFE.out,hlo,hpl];exact rfl
              have HQG:Hid (∀ m' os,LR w1 rs (.slice la N lc) L W0 (Go.Sort.grow (wr.drewN m') os) m (FxU rs L W0 i j pl∧wntI L W0 rs i=x)):=fun m' os=>(HQ.out.grown ((Grown.refl wr).quiet m' os)).imp fun h=>⟨h.1.enter HPL.out,h.2⟩
              have c1':=fun m os=>((Grown.refl wr).quiet m os).cellv c2
              clear HQ hLS ht1 ht2 ht3 hblk hsr hsa hsd HC0 hlo hhh hpl
              go_wp2
              refine wp_region_quiet_grown mixed (by kernel_rfl) ?_
              repeat (go_big_quiet_step ((go_at_call 88;exact grown_of (HC.out _ _))))
              refine wpQuiet_nil ?_
              intro _ hw'
              obtain ⟨⟨nq,osq⟩,hw''⟩:=hw'
              subst hw''
              have HQB:=Hid.mk' (HQG.out nq osq)
              generalize Go.Sort.grow (wr.drewN nq) osq=wB at HQB ⊢
              clear k0 k1 c1' HC HQG c1 c2
              go_wp2
              go_loopw [6,11] (fun v6 v11 wr=>∃ (m:Bool) (a:Nat),v6 = .bool m∧v11 = .int .i64 a∧pl≤a∧a≤N∧Hid (LR w1 rs (.slice la N lc) L W0 wr m (FxU rs L W0 i j a∧wntI L W0 rs i=x))) (fun _ v11 _=>N - (intOf v11).toNat)
              case atStart=>exact ⟨m,pl,rfl,rfl,Nat.le_refl _,by omega,HQB⟩
              case round=>
               clear HQB
               obtain ⟨m,a,rfl,rfl,ha1,ha2,HQ⟩:=hrel
               have ha0:(0:Int)≤(a:Int):=by omega
               have hil:i<rs.length:=by rw [HN.out];exact hlti
               have hjF:j<F.length:=by rw [HSN.out];exact hltj
               obtain ⟨wv,W,hLS,ht1,ht2,ht3⟩:=HQ.out
               obtain ⟨gw,cw,hwv,hcw,hcel,hfz,hset⟩:=hLS.form (by rw [HNL.out];exact HLl.out.1)
               rw [HNL.out] at hwv hcel
               subst hwv
               have hblk:=hLS.blk
               rw [HSP.out] at hblk
               have d0:wr.cell? ⟨sp,0,none⟩=some (.slice la N lc):=by rw [cell_of hblk];simp
               have d1:wr.cell? ⟨sp,1,none⟩=some (.slice (some ⟨gw,0,none⟩) N cw):=by rw [cell_of hblk];simp
               have hIL2:=HIL.out.below hLS.bel (Nat.le_refl _)
               obtain ⟨sa',sc',es,_,hsr⟩:=HSV.out
               obtain ⟨sg',so',hsa,hsd⟩:=hsr.resolve_left (fun e=>by rw [e] at hjF;simp at hjF)
               injection es with e1 e2 e3
               rw [hsa] at e1
               injection e1 with e1
               injection e1 with e1 e4
               subst e1 e4
               clear e2 e3 hsa
               have c2:=cell_below (hsd j hjF).2 hLS.bel (Nat.le_refl _)
               rw [HHH.out] at c2
               have HQG:Hid (∀ (Q:Prop) V,Grown wr V→((FxU rs L W0 i j a∧wntI L W0 rs i=x)→Q)→LR w1 rs (.slice la N lc) L W0 V m Q):=fun Q V hg k=>(HQ.out.grown hg).imp k
               have HW0:Hid (m=false→W=W0):=fun hm=>(ht3 hm).1
               have HHR:Hid ((rg (fstS rs i) j).2=hh):=by rw [HFE.out];exact HHH.out
               by_cases h1:a<N
               · have h1I:(a:Int)<(N:Int):=by omega
                 have h1d:decide ((a:Int)<(N:Int))=true:=by simpa using h1I
                 have h1n:decide (a<N)=true:=by simpa using h1
                 have HST:Hid (bAt L a≤hh→bAt W a<x→x≤64→∀ (Q:Prop) V,Grown wr V→LR w1 rs (.slice la N lc) L W0 (V.setCell ⟨gw,a,none⟩ (.int .i64 x)) true Q):=fun hle hlt h64 Q V hg=>by
                  have hL2:=hLS.grown hg
                  obtain ⟨gw',cw',hwv',_,_,_,hset'⟩:=hL2.form (by rw [HNL.out];exact HLl.out.1)
                  injection hwv' with z1 z2 z3
                  injection z1 with z1
                  injection z1 with z1
                  subst z1
                  have hu:hasU (fstS rs i) (bAt L a):=by rw [HFE.out];exact HFI.out a ha1 h1 hle
                  have hWB:=hLS.wb.set (k:=a) (by rw [HNL.out];exact h1) hil hu (by rw [HFE.out];exact HFV.out) hlt h64 HXW.out
                  have hmore:=tws_more (W:=W) (k:=a) (n:=x) (by rw [hLS.wb.e,HNL.out];exact h1) (by have:=(hLS.wb.b a (by rw [HNL.out];exact h1)).1;omega) hlt
                  exact ⟨_,_,hset' a x hWB,by omega,fun _=>by omega,by simp⟩
                 obtain ⟨lg,lo2,hla,cl⟩:=ir_cell hIL2 (j:=a) (by rw [HNL.out];exact h1)
                 subst hla
                 have cw1:=hcel a h1
                 by_cases h2:bAt L a≤hh
                 · by_cases h3:x≤bAt W a
                   · have HPLC:Hid ((FxU rs L W0 i j a∧wntI L W0 rs i=x)→m=false→FxU rs L W0 i j (a+1)∧wntI L W0 rs i=x):=fun hp hm=>⟨hp.1.place fun hi=>by rw [←wntI_at hi,hp.2,←HW0.out hm];exact h3,hp.2⟩
                     have HQP:Hid (∀ V,Grown wr V→LR w1 rs (.slice (some ⟨lg,lo2,none⟩) N lc) L W0 V m (FxU rs L W0 i j (a+1)∧wntI L W0 rs i=x)):=fun V hg=>by
                      cases hm:m with
                      | true=>
                       obtain ⟨v1,W1,g1,g2,g3,g4⟩:=HQG.out _ V hg id
                       exact ⟨v1,W1,g1,g2,fun _=>g3 hm,by simp⟩
                      | false=>
                       have:=HQG.out _ V hg fun hp=>HPLC.out hp hm
                       rw [hm] at this
                       exact this
                     clear HPLC
                     generalize bAt L a=y1 at cl h2
                     generalize bAt W a=y2 at cw1 h3
                     clear HST HW0 HQG hset hfz hcel hLS hIL2 hsd hsr HQ ht1 ht2 ht3 hblk
                     go_wp2
                     go_quiet (fail)
                     go_wp2
                     exact ⟨⟨m,a+1,rfl,by go_num,by omega,by omega,HQP.out _ (by (repeat (first | exact Grown.refl _ | refine Grown.alloc ?_ _ | refine Grown.drew ?_ | refine Grown.drewN ?_ _ | refine Grown.quiet ?_ _ _)))⟩,by simp [intOf];omega⟩
                   · by_cases h64:64<x
                     · have h64d:decide (64<x)=true:=by simpa using h64
                       have h3d:decide (x≤bAt W a)=false:=by simpa using h3
                       have hfe:=HX64.out h64
                       have hb0:=blk_below HB1.out.2 hLS.bel (by have:=blk_lt HB1.out.2;omega)
                       have HBw:Hid (Below w.heap.size w wr):=HB1.out.1.trans (hLS.bel.mono HB1.out.1.size)
                       have HGD:Hid (∀ V,Grown wr V→V.heap[w.heap.size]? = some (.cells #[.slice none 0 0,.slice none 0 0] 89 (0,0))∧Below w.heap.size w V):=fun V hg=>⟨blk_below hb0 hg.below (blk_lt hb0),HBw.out.trans (hg.below.mono HBw.out.size)⟩
                       have HB0:=Hid.mk' hb0
                       generalize bAt L a=y1 at cl h2
                       generalize bAt W a=y2 at cw1 h3 h3d
                       clear HST hset hfz hcel hLS hIL2 hsd hsr HQ ht1 ht2 ht3 hblk HQG HW0 hb0 HBw
                       go_wp2
                       go_quiet (fail)
                       have HV:=Hid.mk' (HGD.out (wr.drewN nq) (Grown.drewN (Grown.refl wr) nq))
                       have e0:wr.cell? ⟨w.heap.size,0,none⟩=some (.slice none 0 0):=by rw [cell_of HB0.out];simp
                       have e1:wr.cell? ⟨w.heap.size,1,none⟩=some (.slice none 0 0):=by rw [cell_of HB0.out];simp
                       have fz:∀ j,wr.frozen? ⟨w.heap.size,j,none⟩=false:=fun j=>free_of HB0.out
                       clear HGD
                       go_wp2
                       refine ret_sc rfl rfl rfl (set_heap (set_heap HV.out.1)) ?_
                       exact ⟨_,_,⟨_,_,_,rfl⟩,⟨_,_,_,rfl⟩,by rw [hfe],(HV.out.2.setCell (Nat.le_refl _) _).setCell (Nat.le_refl _) _,fun h=>by rw [hfe] at h;cases h⟩
                     have HS2:=Hid.mk' (HST.out h2 (by omega) (by omega) (FxU rs L W0 i j (a+1)∧wntI L W0 rs i=x))
                     have f1:=hfz a
                     generalize bAt L a=y1 at cl h2
                     generalize bAt W a=y2 at cw1 h3
                     have h3d:decide (x≤y2)=false:=by simpa using h3
                     have h4d:¬ 64<x:=by omega
                     clear HST hset hfz hcel hLS hIL2 hsd hsr HQ ht1 ht2 ht3 hblk HQG
                     go_wp2
                     go_quiet (fail)
                     go_wp2
                     exact ⟨⟨true,a+1,rfl,by go_num,by omega,by omega,HS2.out _ (by (repeat (first | exact Grown.refl _ | refine Grown.alloc ?_ _ | refine Grown.drew ?_ | refine Grown.drewN ?_ _ | refine Grown.quiet ?_ _ _)))⟩,by simp [intOf];omega⟩
                 · have HRG:Hid ((FxU rs L W0 i j a∧wntI L W0 rs i=x)→FxU rs L W0 i (j+1) 0∧wntI L W0 rs i=x):=fun hp=>⟨hp.1.range HSL.out.p fun _=>by rw [HHR.out];omega,hp.2⟩
                   have HQP:=Hid.mk' (fun V (hg:Grown wr V)=>HQG.out _ V hg HRG.out)
                   clear HRG HQG HW0
                   generalize bAt L a=y1 at cl h2
                   have h2d:decide (y1≤hh)=false:=by simpa using h2
                   clear HST hset hfz hcel hLS hIL2 hsd hsr HQ ht1 ht2 ht3 hblk cw1
                   go_wp2
                   go_quiet (fail)
                   go_wp2
                   go_meet
                   exact ⟨m,rfl,HQP.out _ (by (repeat (first | exact Grown.refl _ | refine Grown.alloc ?_ _ | refine Grown.drew ?_ | refine Grown.drewN ?_ _ | refine Grown.quiet ?_ _ _)))⟩
               · have h1I:¬ (a:Int)<(N:Int):=by omega
                 have h1d:decide ((a:Int)<(N:Int))=false:=by simpa using h1I
                 have h1n:decide (a<N)=false:=by simpa using h1
                 have HRG:Hid ((FxU rs L W0 i j a∧wntI L W0 rs i=x)→FxU rs L W0 i (j+1) 0∧wntI L W0 rs i=x):=fun hp=>⟨hp.1.range HSL.out.p fun h=>by rw [HNL.out] at h;omega,hp.2⟩
                 have HQP:=Hid.mk' (fun V (hg:Grown wr V)=>HQG.out _ V hg HRG.out)
                 clear HRG HQG HW0
                 clear hset hfz hcel hLS hIL2 hsd hsr HQ ht1 ht2 ht3 hblk
                 go_wp2
                 go_quiet (fail)
                 go_wp2
                 go_meet
                 exact ⟨m,rfl,HQP.out _ (by (repeat (first | exact Grown.refl _ | refine Grown.alloc ?_ _ | refine Grown.drew ?_ | refine Grown.drewN ?_ _ | refine Grown.quiet ?_ _ _)))⟩
           · have hge:¬ (j:Int)<(sn:Int):=by omega
             have HQ2:Hid (LR w1 rs (.slice la N lc) L W0 wr m (FxU rs L W0 (i+1) 0 0)):=HQ.out.imp fun hp=>hp.1.rule (by rw [HFE.out,HSN.out];omega)
             clear HQ
             go_wp2
             go_meet
             exact ⟨m,rfl,HQ2⟩
       · have hge:¬ (i:Int)<(n:Int):=by omega
         go_wp2
         go_roundg (gk - 1)
         case measure=>
          obtain ⟨_,W,h2,h3,_⟩:=HQ.out
          have h1:=HM.out
          have h4:=h2.wb.tws
          rw [HNL.out] at h4
          omega
         case rel=>
          refine ⟨m,rfl,?_⟩
          obtain ⟨wv,W,h2,h3,h4,h5⟩:=HQ.out
          refine ⟨wv,W,h2,fun hm => ?_,fun hm => ?_⟩
          rotate_left
          · obtain ⟨h6,h7⟩:=h5 hm
            rw [h6] at h2 ⊢
            exact h2.wb.fx h7 (by rw [HN.out];omega)
          have h1:=HM.out
          have:=h4 hm
          omega
end Go.Proofs
