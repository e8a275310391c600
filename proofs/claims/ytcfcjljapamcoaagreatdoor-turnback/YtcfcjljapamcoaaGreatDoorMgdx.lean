/-
  Several texts in one (Fa Fb Ha Hb Hc).
-/
import Derived.RangeFuncNested
import Derived.RangeFuncBound
import Derived.RangeFuncCalls
import Derived.RangeFuncLeaves
import Derived.Shelf.Abstract
import Derived.Shelf.RegionOpen
import Derived.WalkKit
import Derived.WalkSpells
import Derived.WalkLawsBesides
import Derived.OwnWalkIn
import Derived.TacticsInMore
import Derived.LoopNIn
import Derived.LoopIn
import Derived.BigQuiet
import Derived.RegionIn
import Derived.Deep.QuietTactic
import Derived.Deep.RegionWith
import Derived.Lib.OthersKept
import Derived.Maps.AppendAt
import Derived.Lib.SmallJoins
import Derived.Shelf.SlSortCmp.QuietGrown
import Derived.Test.YtcfcjljapamcoaaGreatDoorMgcx
import Derived.Test.YtcfcjljapamcoaaGreatDoorMgbx
import Derived.Deep.AppendLies
import Derived.Deep.RegionLaw
namespace Go.Proofs
open Go.RowKit Go.Shelf
set_option maxRecDepth 100000
attribute [local go_sem] Oper.semAt_some
attribute [local go_sem ↓] Go.wp_at_zero Go.wp_at_succ
theorem touch_of:∀ (a b:List (Int × Int)) (u:Int),Good a→Good b→hasU a u→hasU b u→touchL a b=true
 | [],_,u,_,_,h,_=>by obtain ⟨x,hx,_⟩:=h;simp at hx
 | x::a,[],u,_,_,_,h=>by obtain ⟨y,hy,_⟩:=h;simp at hy
 | x::a,y::b,u,ha,hb,h1,h2=>by
  have ga:Good a:=⟨fun z hz=>ha.1 z (List.mem_cons_of_mem _ hz),(List.pairwise_cons.1 ha.2).2⟩
  have gb:Good b:=⟨fun z hz=>hb.1 z (List.mem_cons_of_mem _ hz),(List.pairwise_cons.1 hb.2).2⟩
  have aa:=(List.pairwise_cons.1 ha.2).1
  have bb:=(List.pairwise_cons.1 hb.2).1
  have wx:=(whole_iff _ _).1 (ha.1 x List.mem_cons_self)
  have wy:=(whole_iff _ _).1 (hb.1 y List.mem_cons_self)
  rw [touch_cons]
  obtain ⟨p,hp,hp1,hp2⟩:=h1
  obtain ⟨q,hq,hq1,hq2⟩:=h2
  by_cases c1:x.2<y.1
  · rw [if_pos c1]
    refine touch_of a (y::b) u ga hb ?_ ⟨q,hq,hq1,hq2⟩
    rcases List.mem_cons.1 hp with rfl | hp
    · exfalso
      rcases List.mem_cons.1 hq with rfl | hq
      · omega
      · have:=bb q hq;omega
    · exact ⟨p,hp,hp1,hp2⟩
  · rw [if_neg c1]
    by_cases c2:y.2<x.1
    · rw [if_pos c2]
      refine touch_of (x::a) b u ha gb ⟨p,hp,hp1,hp2⟩ ?_
      rcases List.mem_cons.1 hq with rfl | hq
      · exfalso
        rcases List.mem_cons.1 hp with rfl | hp
        · omega
        · have:=aa p hp;omega
      · exact ⟨q,hq,hq1,hq2⟩
    · rw [if_neg c2]
termination_by a b=>a.length+b.length
theorem bump_rs (w:Int) (st:St) (i:Nat):(bump w st i).bk.map Pb.r=st.bk.map Pb.r:=by
 unfold bump
 cases hb:st.bk[i]? with
 | none=>rfl
 | some b=>
  simp only
  split
  · simp only
    obtain ⟨hi,hbi⟩:=List.getElem?_eq_some_iff.1 hb
    rw [List.map_set]
    refine List.ext_getElem (by simp) fun j h1 h2 => ?_
    rw [List.getElem_set]
    split
    · rename_i e;subst e;simp [hbi]
    · rfl
  · rfl
theorem bumps_rs (w:Int):∀ (l:List Nat) (st:St),(l.foldl (bump w) st).bk.map Pb.r=st.bk.map Pb.r
 | [],_=>rfl
 | i::l,st=>by rw [List.foldl_cons,bumps_rs w l,bump_rs]
theorem bump_us (w:Int) (st:St) (i:Nat):(bump w st i).bk.map Pb.us=st.bk.map Pb.us:=by
 unfold bump
 cases hb:st.bk[i]? with
 | none=>rfl
 | some b=>
  simp only
  split
  · exact map_us_set hb
  · rfl
theorem bumps_us (w:Int):∀ (l:List Nat) (st:St),(l.foldl (bump w) st).bk.map Pb.us=st.bk.map Pb.us
 | [],_=>rfl
 | i::l,st=>by rw [List.foldl_cons,bumps_us w l,bump_us]
def wtAt (bk:List Pb) (j:Nat):Int:=(bk[j]?.map Pb.wt).getD 0
theorem bump_wt (w:Int) (st:St) (i j:Nat):wtAt (bump w st i).bk j=if j=i∧j<st.bk.length∧wtAt st.bk j<w then w else wtAt st.bk j:=by
 unfold bump
 cases hb:st.bk[i]? with
 | none=>
  rw [if_neg]
  rintro ⟨rfl,h,_⟩
  rw [List.getElem?_eq_getElem h] at hb
  cases hb
 | some b=>
  obtain ⟨hi,hbi⟩:=List.getElem?_eq_some_iff.1 hb
  simp only
  by_cases hlt:b.wt<w
  · rw [if_pos hlt]
    show wtAt (st.bk.set i _) j=_
    by_cases e:i=j
    · subst e
      have hw:wtAt st.bk i<w:=by unfold wtAt;rw [hb];simpa using hlt
      rw [if_pos ⟨rfl,hi,hw⟩]
      unfold wtAt
      simp [hi]
    · rw [if_neg (fun h=>e h.1.symm)]
      unfold wtAt
      simp [e]
  · rw [if_neg hlt,if_neg]
    rintro ⟨rfl,_,h⟩
    unfold wtAt at h
    rw [hb] at h
    simp at h
    omega
theorem bumps_wt (w:Int):∀ (l:List Nat) (st:St) (j:Nat),wtAt (l.foldl (bump w) st).bk j=if j∈l∧j<st.bk.length∧wtAt st.bk j<w then w else wtAt st.bk j
 | [],st,j=>by simp
 | i::l,st,j=>by
  have hlen:(bump w st i).bk.length=st.bk.length:=by simpa using congrArg List.length (bump_rs w st i)
  rw [List.foldl_cons,bumps_wt w l,hlen,bump_wt]
  by_cases e:j=i
  · subst e
    by_cases h:j<st.bk.length∧wtAt st.bk j<w
    · have h1:(if j=j∧j<st.bk.length∧wtAt st.bk j<w then w else wtAt st.bk j)=w:=if_pos ⟨rfl,h⟩
      rw [h1,if_neg (fun x=>by omega),if_pos ⟨List.mem_cons_self,h⟩]
    · have h1:(if j=j∧j<st.bk.length∧wtAt st.bk j<w then w else wtAt st.bk j)=wtAt st.bk j:=if_neg (fun x=>h x.2)
      rw [h1,if_neg (fun x=>h x.2),if_neg (fun x=>h x.2)]
  · have h1:(if j=i∧j<st.bk.length∧wtAt st.bk j<w then w else wtAt st.bk j)=wtAt st.bk j:=if_neg (fun x=>e x.1)
    rw [h1]
    by_cases h:j∈l∧j<st.bk.length∧wtAt st.bk j<w
    · rw [if_pos h,if_pos ⟨List.mem_cons_of_mem _ h.1,h.2⟩]
    · rw [if_neg h,if_neg]
      rintro ⟨h2,h3⟩
      rcases List.mem_cons.1 h2 with h2 | h2
      · exact e h2
      · exact h ⟨h2,h3⟩
theorem mem_lean {rs:List Rl} {bk:List Pb} {n j:Nat} : j∈leanL rs bk n↔j<bk.length∧touchL (fstS rs n) (usAt bk j)=true:=by
 unfold leanL
 rw [List.mem_filter,List.mem_range]
theorem lift_wt (rs:List Rl) (n:Nat) (st:St) (j:Nat):wtAt (liftP rs n st).bk j=if (j<st.bk.length∧touchL (fstS rs n) (usAt st.bk j)=true)∧wtAt st.bk j<at0 st.aq n then at0 st.aq n else wtAt st.bk j:=by
 unfold liftP
 rw [bumps_wt]
 simp only [mem_lean]
 by_cases h:(j<st.bk.length∧touchL (fstS rs n) (usAt st.bk j)=true)∧wtAt st.bk j<at0 st.aq n
 · rw [if_pos h,if_pos ⟨h.1,h.1.1,h.2⟩]
 · rw [if_neg h,if_neg (fun x=>h ⟨x.1,x.2.2⟩)]
theorem lift_us (rs:List Rl) (n:Nat) (st:St):(liftP rs n st).bk.map Pb.us=st.bk.map Pb.us:=bumps_us _ _ _
theorem lift_rs (rs:List Rl) (n:Nat) (st:St):(liftP rs n st).bk.map Pb.r=st.bk.map Pb.r:=bumps_rs _ _ _
theorem lift_len (rs:List Rl) (n:Nat) (st:St):(liftP rs n st).bk.length=st.bk.length:=by simpa using congrArg List.length (lift_us rs n st)
def Snd (rs:List Rl) (N:Nat) (st:St):Prop:=∀ i j,i<N→j<st.bk.length→touchL (fstS rs i) (usAt st.bk j)=true→at0 st.ws i≤wtAt st.bk j
theorem Snd.lift {rs:List Rl} {N n:Nat} {st:St} (h:Snd rs N st) (hn:n<st.ws.length) (h1:at0 st.ws n<at0 st.aq n):Snd rs N (liftP rs n st):=by
 intro i j hi hj ht
 rw [lift_len] at hj
 rw [usAt_eq (lift_us rs n st),←usAt_eq rfl] at ht
 rw [liftP_ws,at0_set hn,lift_wt]
 have h0:=h i j hi hj ht
 by_cases e:i=n
 · subst e
   rw [if_pos rfl]
   by_cases hc:wtAt st.bk j<at0 st.aq i
   · rw [if_pos ⟨⟨hj,ht⟩,hc⟩];omega
   · rw [if_neg (fun x=>hc x.2)];omega
 · rw [if_neg e]
   split <;> omega
theorem look_none {st:St} : ∀ {k n:Nat},look st k n=none→∀ i,n≤i→i<n+k→at0 st.aq i≤64∧at0 st.aq i≤at0 st.ws i
 | 0,n,_,i,h1,h2=>by omega
 | k+1,n,h,i,h1,h2=>by
  unfold look at h
  split at h
  · cases h
  · rename_i hc
    by_cases e:i=n
    · subst e;omega
    · exact look_none h i (by omega) (by omega)
theorem look_some {st:St} : ∀ {k n m:Nat},look st k n=some m→64<at0 st.aq m∨at0 st.ws m<at0 st.aq m
 | 0,n,m,h=>by simp [look] at h
 | k+1,n,m,h=>by
  unfold look at h
  split at h
  · rename_i hc;cases h;exact hc
  · exact look_some h
structure Run (rs:List Rl) (cs:List Int) (us:List (List (Int × Int))) (rk:List Nat) (st:St):Prop where
 ok:OkSt cs us st
 sn:Snd rs cs.length st
 rk:st.bk.map Pb.r=rk
theorem Run.lift {rs:List Rl} {cs:List Int} {us:List (List (Int × Int))} {rk:List Nat} {st:St} (h:Run rs cs us rk st) {n:Nat} (hn:n<cs.length) (h1:at0 st.ws n<at0 st.aq n) (h2:at0 st.aq n≤64):Run rs cs us rk (liftP rs n st):=
 ⟨h.ok.lift rs hn h1 h2,h.sn.lift (by rw [h.ok.wl];exact hn) h1,(lift_rs rs n st).trans h.rk⟩
theorem settle_sound {rs:List Rl} {cs:List Int} {us:List (List (Int × Int))} {rk:List Nat} {last:Nat} (hl:last<cs.length):∀ (F:Nat) (st:St),Run rs cs us rk st→64*cs.length<F+tws st.ws→Run rs cs us rk (settleP rs last F st).2∧((settleP rs last F st).1=true→look (settleP rs last F st).2 (last+1) 0=none)
 | 0,st,h,hF=>by
  exfalso
  have hb:=tws_bound st.ws (fun i hi=>(h.ok.wb i (by rw [←h.ok.wl];exact hi)).2)
  rw [h.ok.wl] at hb
  omega
 | F+1,st,h,hF=>by
  unfold settleP
  cases hk:look st (last+1) 0 with
  | none=>exact ⟨h,fun _=>hk⟩
  | some n=>
   simp only
   have hle:=look_le st _ _ _ hk
   have hs:=look_some hk
   by_cases h64:64<at0 st.aq n
   · rw [if_pos h64]
     exact ⟨h,fun e=>by cases e⟩
   · rw [if_neg h64]
     have h1:at0 st.ws n<at0 st.aq n:=hs.resolve_left h64
     have hn:n<cs.length:=by omega
     refine settle_sound hl F _ (h.lift hn h1 (by omega)) ?_
     rw [liftP_ws]
     have h3:=tws_set st.ws n (at0 st.aq n) (by rw [h.ok.wl];exact hn)
     have h4:=(h.ok.wb n hn).1
     omega
theorem settleAll_sound {rs:List Rl} {cs:List Int} {us:List (List (Int × Int))} {rk:List Nat} (hc:cs.length=rs.length):∀ (k n:Nat) (st:St),n+k=rs.length→Run rs cs us rk st→(k=0→0<n→look st n 0=none)→∀ R,settleAll rs k n st=(none,R)→Run rs cs us rk R∧(0<rs.length→look R rs.length 0=none)
 | 0,n,st,hn,h,h0,R,e=>by
  simp only [settleAll] at e
  cases e
  refine ⟨h,fun hp => ?_⟩
  have:=h0 rfl (by omega)
  rw [←hn,Nat.add_zero]
  exact this
 | k+1,n,st,hn,h,_,R,e=>by
  have hs:=settle_sound (last:=n) (by omega) (64*rs.length+1) st h (by rw [hc];omega)
  rw [settleAll] at e
  by_cases ht:(settleP rs n (64*rs.length+1) st).1=true
  · rw [if_pos ht] at e
    exact settleAll_sound hc k (n+1) _ (by omega) hs.1 (fun _ _=>hs.2 ht) R e
  · rw [if_neg ht] at e
    cases e
structure Sol (rs:List Rl) (cs:List Int) (us:List (List (Int × Int))) (rk:List Nat) (X:Nat→Int) (Xt:Nat→Int):Prop where
 t:∀ i j,i<cs.length→j<us.length→touchL (fstS rs i) ((us[j]?).getD [])=true→X i≤Xt j
 a:∀ (st:St),st.bk.map Pb.us=us→st.bk.map Pb.r=rk→(∀ j,j<us.length→wtAt st.bk j≤Xt j)→∀ i,i<cs.length→at0 cs i+wsum st.bk i≤X i
 m:∀ i,i<cs.length→X i≤64
structure Bd (cs:List Int) (us:List (List (Int × Int))) (X Xt:Nat→Int) (st:St):Prop where
 w:∀ i,i<cs.length→at0 st.ws i≤X i
 t:∀ j,j<us.length→wtAt st.bk j≤Xt j
theorem settle_least {rs:List Rl} {cs:List Int} {us:List (List (Int × Int))} {rk:List Nat} {X Xt:Nat→Int} (hX:Sol rs cs us rk X Xt) {last:Nat} (hl:last<cs.length):∀ (F:Nat) (st:St),Run rs cs us rk st→Bd cs us X Xt st→(settleP rs last F st).1=true∧Bd cs us X Xt (settleP rs last F st).2
 | 0,st,_,hb=>⟨rfl,hb⟩
 | F+1,st,h,hb=>by
  unfold settleP
  cases hk:look st (last+1) 0 with
  | none=>exact ⟨rfl,hb⟩
  | some n=>
   simp only
   have hle:=look_le st _ _ _ hk
   have hs:=look_some hk
   have hn:n<cs.length:=by omega
   have hul:us.length=st.bk.length:=by rw [←h.ok.uss];simp
   have haq:at0 st.aq n≤X n:=by
    rw [h.ok.asum n hn]
    exact hX.a st h.ok.uss h.rk hb.t n hn
   have hm:=hX.m n hn
   have h64:¬ 64<at0 st.aq n:=by omega
   rw [if_neg h64]
   have h1:at0 st.ws n<at0 st.aq n:=hs.resolve_left h64
   refine settle_least hX hl F _ (h.lift hn h1 (by omega)) ⟨fun i hi => ?_,fun j hj => ?_⟩
   · rw [liftP_ws,at0_set (by rw [h.ok.wl];exact hn)]
     split
     · rename_i e;subst e;exact haq
     · exact hb.w i hi
   · rw [lift_wt]
     split
     · rename_i hc
       have ht:=hc.1.2
       rw [usAt_eq h.ok.uss] at ht
       exact Int.le_trans haq (hX.t n j hn hj ht)
     · exact hb.t j hj
theorem settleAll_least {rs:List Rl} {cs:List Int} {us:List (List (Int × Int))} {rk:List Nat} {X Xt:Nat→Int} (hX:Sol rs cs us rk X Xt) (hc:cs.length=rs.length):∀ (k n:Nat) (st:St),n+k=rs.length→Run rs cs us rk st→Bd cs us X Xt st→(settleAll rs k n st).1=none∧Bd cs us X Xt (settleAll rs k n st).2
 | 0,n,st,_,_,hb=>⟨rfl,hb⟩
 | k+1,n,st,hn,h,hb=>by
  have hs:=settle_sound (last:=n) (by omega) (64*rs.length+1) st h (by rw [hc];omega)
  have hl:=settle_least hX (last:=n) (by omega) (64*rs.length+1) st h hb
  rw [settleAll,if_pos hl.1]
  exact settleAll_least hX hc k (n+1) _ (by omega) hs.1 hl.2
theorem run_start {rs:List Rl} (hO:∀ r∈rs,Ok r) (hn:rs.length≤256):Run rs (csI rs) ((bkI rs rs.length).map Pb.us) ((bkI rs rs.length).map Pb.r) (stK rs rs.length):=by
 refine ⟨okSt_start hO hn,fun i j hi hj _ => ?_,by rw [stK_all]⟩
 rw [csI_len] at hi
 rw [stK_all] at hj ⊢
 simp only at hj ⊢
 have h1:at0 (List.replicate rs.length 1) i=1:=by simp [at0,hi]
 have h2:wtAt (bkI rs rs.length) j=1:=by
  unfold wtAt
  rw [List.getElem?_eq_getElem hj]
  exact (bkI_mem (List.getElem_mem hj)).2.1
 omega
structure Fin (rs:List Rl) (st:St):Prop where
 n:rs.length≤256
 ok:∀ r∈rs,Ok r
 cp:∀ r∈rs,copB r=false
 run:Run rs (csI rs) ((bkI rs rs.length).map Pb.us) ((bkI rs rs.length).map Pb.r) st
 en:∀ i,i<rs.length→at0 st.aq i≤at0 st.ws i
theorem fstC_none:∀ {rs:List Rl} {k:Nat},fstC rs k=none→∀ r∈rs,copB r=false
 | [],_,_,r,h=>by cases h
 | q::l,k,h,r,hr=>by
  unfold fstC at h
  by_cases hq:copB q=true
  · rw [if_pos hq] at h;cases h
  · rw [if_neg hq] at h
    rcases List.mem_cons.1 hr with rfl | hr
    · simpa using hq
    · exact fstC_none h r hr
theorem fstC_of:∀ {rs:List Rl} {k:Nat},(∀ r∈rs,copB r=false)→fstC rs k=none
 | [],_,_=>rfl
 | q::l,k,h=>by
  unfold fstC
  rw [if_neg (by rw [h q List.mem_cons_self];simp)]
  exact fstC_of fun r hr=>h r (List.mem_cons_of_mem _ hr)
theorem fstR_of:∀ {rs:List Rl} {k:Nat},(∀ r∈rs,chk r=0)→fstR rs k=(0,0)
 | [],_,_=>rfl
 | q::l,k,h=>by
  unfold fstR
  rw [if_pos (h q List.mem_cons_self)]
  exact fstR_of fun r hr=>h r (List.mem_cons_of_mem _ hr)
theorem wgh_chk {rs:List Rl} {st:St} {c:Int × Int} (h:wgh rs=(some st,c)):∀ r∈rs,chk r=0:=by
 unfold wgh at h
 by_cases h0:(allE rs).2≠0
 · rw [if_pos h0] at h;injection h with h1;cases h1
 · have h1:=Classical.not_not.1 h0
   unfold allE at h1
   by_cases hn:256<rs.length
   · rw [if_pos hn] at h1;cases h1
   · rw [if_neg hn] at h1
     exact fstR_ok h1
theorem wgh_fin {rs:List Rl} {st:St} {c:Int × Int} (h:wgh rs=(some st,c)):Fin rs st:=by
 have hok:=wgh_some h
 unfold wgh at h
 by_cases h0:(allE rs).2≠0
 · rw [if_pos h0] at h;injection h with h1;cases h1
 · rw [if_neg h0] at h
   cases hC:fstC rs 0 with
   | some n=>rw [hC] at h;injection h with h1;cases h1
   | none=>
    rw [hC] at h
    simp only at h
    obtain ⟨o,R,hR⟩:∃ o R,settleAll rs rs.length 0 (stK rs rs.length)=(o,R):=⟨_,_,rfl⟩
    rw [hR] at h
    cases o with
    | some n=>injection h with h1;cases h1
    | none=>
     injection h with h1 _
     injection h1 with h1
     subst h1
     have hs:=settleAll_sound (csI_len rs) rs.length 0 _ (by omega) (run_start hok.2 hok.1) (fun _ h=>by omega) R hR
     refine ⟨hok.1,hok.2,fstC_none hC,hs.1,fun i hi => ?_⟩
     exact (look_none (hs.2 (by omega)) i (Nat.zero_le _) (by omega)).2
theorem wgtK_mono {rs:List Rl} {ws:List Int} {u:Int} (k:Nat):wgtK rs ws u k≤wgtK rs ws u (k+1):=by
 rw [wgtK]
 split
 · rename_i h;omega
 · exact Int.le_refl _
theorem wgtK_one {rs:List Rl} {ws:List Int} {u:Int} : ∀ k,1≤wgtK rs ws u k
 | 0=>by simp [wgtK]
 | k+1=>Int.le_trans (wgtK_one k) (wgtK_mono k)
theorem wgtK_ge {rs:List Rl} {ws:List Int} {u:Int} : ∀ {n i:Nat},i<n→hasB (fstS rs i) u=true→at0 ws i≤wgtK rs ws u n
 | n+1,i,hi,h=>by
  by_cases e:i=n
  · subst e
    rw [wgtK]
    by_cases hc:wgtK rs ws u i<at0 ws i
    · rw [if_pos ⟨hc,h⟩];exact Int.le_refl _
    · rw [if_neg (fun x=>hc x.1)];omega
  · exact Int.le_trans (wgtK_ge (by omega) h) (wgtK_mono n)
theorem wgtK_is {rs:List Rl} {ws:List Int} {u:Int} : ∀ n,wgtK rs ws u n=1∨∃ i,i<n∧hasB (fstS rs i) u=true∧wgtK rs ws u n=at0 ws i
 | 0 => .inl rfl
 | n+1=>by
  rw [wgtK]
  by_cases hc:wgtK rs ws u n<at0 ws n∧hasB (fstS rs n) u=true
  · rw [if_pos hc];exact .inr ⟨n,by omega,hc.2,rfl⟩
  · rw [if_neg hc]
    rcases wgtK_is n with h | ⟨i,hi,h1,h2⟩
    · exact .inl h
    · exact .inr ⟨i,by omega,h1,h2⟩
theorem mayB_good {r:Rl} (hO:Ok r) {p:Pc} (hp:p∈backP r) (h2:p.k≠2):Good (mayB p):=by
 rcases pc_ok (hO.pc p (List.mem_of_mem_drop hp)) with ⟨h1,hw,_⟩ | ⟨h1,_⟩ | ⟨h1,_,_,_,hm⟩
 · unfold mayB
   rw [if_neg (by omega)]
   refine ⟨fun x hx => ?_,by simp⟩
   simp at hx
   subst hx
   rw [whole_iff]
   unfold wd at hw
   split at hw
   · omega
   · split at hw
     · omega
     · exact absurd rfl hw
 · exact absurd h1 h2
 · unfold mayB
   rw [if_pos h1]
   unfold matB at hm
   simp only [Bool.and_eq_true] at hm
   exact ((validB_iff _).1 hm.1).2
theorem pbs_mem2 {n:Nat} : ∀ {l:List Pc} {b:Pb},b∈pbs n l→∃ p∈l,p.k≠2∧b.us=mayB p
 | [],b,h=>by simp [pbs] at h
 | p::l,b,h=>by
  simp only [pbs] at h
  split at h
  · obtain ⟨q,h1,h2⟩:=pbs_mem2 h
    exact ⟨q,List.mem_cons_of_mem _ h1,h2⟩
  · rename_i h2
    rcases List.mem_cons.1 h with rfl | h
    · exact ⟨p,List.mem_cons_self,h2,rfl⟩
    · obtain ⟨q,h1,h2⟩:=pbs_mem2 h
      exact ⟨q,List.mem_cons_of_mem _ h1,h2⟩
theorem bkI_good {rs:List Rl} (hO:∀ r∈rs,Ok r):∀ {k:Nat} {b:Pb},b∈bkI rs k→Good b.us
 | 0,b,h=>by simp [bkI] at h
 | k+1,b,h=>by
  rw [bkI] at h
  rcases List.mem_append.1 h with h | h
  · exact bkI_good hO h
  · obtain ⟨p,h1,h2,h3⟩:=pbs_mem2 h
    cases hk:rs[k]? with
    | none=>rw [hk] at h1;simp at h1
    | some r=>
     rw [hk] at h1
     rw [h3]
     exact mayB_good (hO r (List.mem_of_getElem? hk)) (by simpa using h1) h2
theorem key_good {rs:List Rl} (hO:∀ r∈rs,Ok r) {i:Nat} (hi:i<rs.length):Good (fstS rs i):=by
 have h:=hO _ (List.getElem_mem hi)
 have h0:=h.k0
 have:=List.all_eq_true.1 h.kS _ (List.getElem_mem h0)
 unfold okS at this
 simp only [Bool.and_eq_true] at this
 rw [fstS_at hi,show keyAt rs[i].key 0=rs[i].key[0] by simp [keyAt,h0]]
 exact ((validB_iff _).1 this.1).2
theorem Fin.us_good {rs:List Rl} {st:St} (h:Fin rs st) {j:Nat} (hj:j<st.bk.length):Good (usAt st.bk j):=by
 have hu:=h.run.ok.uss
 have hl:st.bk.length=(bkI rs rs.length).length:=by simpa using congrArg List.length hu
 rw [usAt_eq hu]
 simp only [List.getElem?_map]
 rw [List.getElem?_eq_getElem (by omega)]
 exact bkI_good h.ok (List.getElem_mem _)
def pairM (rs:List Rl) (l:List (Int × Int)):Int:=(l.take 20).foldl (fun m x=>max (max m (wgtP rs x.1)) (wgtP rs x.2)) 0
def gs (g:List (Int × Int)→Int):List Pb→Nat→Int
 | [],_=>0
 | b::l,n=>(if b.r=n then g b.us else 0)+gs g l n
theorem gs_append (g:List (Int × Int)→Int) (l k:List Pb) (n:Nat):gs g (l++k) n=gs g l n+gs g k n:=by
 induction l with
 | nil=>simp [gs]
 | cons b l ih=>simp only [List.cons_append,gs,ih];omega
theorem gs_le {g:List (Int × Int)→Int} : ∀ {l:List Pb},(∀ b∈l,g b.us≤b.wt)→∀ n,gs g l n≤wsum l n
 | [],_,n=>by simp [gs,wsum]
 | b::l,h,n=>by
  have h1:=gs_le (fun x hx=>h x (List.mem_cons_of_mem _ hx)) n
  have h2:=h b List.mem_cons_self
  simp only [gs,wsum]
  split <;> omega
theorem gs_same {g:List (Int × Int)→Int} : ∀ {l k:List Pb},l.map Pb.r=k.map Pb.r→l.map Pb.us=k.map Pb.us→∀ n,gs g l n=gs g k n
 | [],[],_,_,n=>rfl
 | [],_::_,h,_,n=>by simp at h
 | _::_,[],h,_,n=>by simp at h
 | b::l,c::k,h1,h2,n=>by
  simp only [List.map_cons,List.cons.injEq] at h1 h2
  simp only [gs,h1.1,h2.1,gs_same h1.2 h2.2 n]
theorem gs_pbs (g:List (Int × Int)→Int) (n i:Nat) (h:n≠i):∀ l:List Pc,gs g (pbs n l) i=0
 | []=>rfl
 | p::l=>by
  simp only [pbs]
  split
  · exact gs_pbs g n i h l
  · simp only [gs,gs_pbs g n i h l]
    rw [if_neg h]
    omega
theorem gs_bkI (g:List (Int × Int)→Int) (rs:List Rl) (i:Nat):∀ k,gs g (bkI rs k) i=if i<k then gs g (pbs i ((rs[i]?.map backP).getD [])) i else 0
 | 0=>by simp [bkI,gs]
 | k+1=>by
  rw [bkI,gs_append,gs_bkI g rs i k]
  by_cases h1:i<k
  · rw [if_pos h1,gs_pbs g k i (by omega),if_pos (by omega)];omega
  · rw [if_neg h1]
    by_cases h2:k=i
    · subst h2;rw [if_pos (by omega)];omega
    · rw [gs_pbs g k i h2,if_neg (by omega)];omega
def bkS (rs:List Rl):List Pc→Int
 | []=>0
 | p::l=>(if p.k=1 then wgtP rs p.u else if p.k=3 then pairM rs p.tl else 0)+bkS rs l
def copN:List Pc→Int
 | []=>0
 | p::l=>(if p.k=2 then 1 else 0)+copN l
theorem pbs_cop (n:Nat):∀ l:List Pc,((pbs n l).length:Int)+copN l=l.length
 | []=>rfl
 | p::l=>by
  have ih:=pbs_cop n l
  simp only [pbs,copN]
  split
  · simp only [List.length_cons];omega
  · simp only [List.length_cons];omega
theorem csI_val {rs:List Rl} {i:Nat} (hi:i<rs.length):at0 (csI rs) i=2 - (rs[i].key.length:Int)+copN (backP rs[i]):=by
 rw [csI_at hi,wsum_bkI,if_pos hi,stK_all,List.getElem?_eq_getElem hi]
 have h4:at0 (rs.map askI) i=askI rs[i]:=by simp [at0,hi]
 have h5:=pbs_cop i (backP rs[i])
 simp only [Option.map_some,Option.getD_some]
 rw [h4]
 unfold askI
 omega
theorem plcF_lt (l:List Int) (u:Int):∀ (f lo hi:Nat),lo<hi→plcF l u f lo hi<hi
 | 0,lo,hi,h=>by rw [plcF];exact h
 | f+1,lo,hi,h=>by
  rw [plcF]
  split
  · split
    · exact plcF_lt l u f _ _ (by omega)
    · exact Nat.lt_trans (plcF_lt l u f lo _ (by omega)) (by omega)
  · exact h
theorem plc_lt {l:List Int} (u:Int) (h:0<l.length):plc l u<l.length:=plcF_lt l u _ _ _ h
def In64 (W:List Int):Prop:=∀ j,0≤bAt W j∧bAt W j≤64
theorem grK_in {L W:List Int} {hi:Int} (hW:In64 W):∀ (f k:Nat) (n:Int),0≤n∧n≤64→0≤grK L W hi f k n∧grK L W hi f k n≤64
 | 0,_,_,h=>h
 | f+1,k,n,h=>by
  rw [grK]
  split
  · refine grK_in hW f _ _ ?_
    split
    · exact hW k
    · exact h
  · exact h
theorem grt_in {L W:List Int} (hW:In64 W) (s:List (Int × Int)):0≤grt L W s∧grt L W s≤64:=by
 have:∀ (s:List (Int × Int)) (n:Int),0≤n∧n≤64→0≤s.foldl (gr1 L W) n∧s.foldl (gr1 L W) n≤64:=by
  intro s
  induction s with
  | nil=>intro n h;exact h
  | cons x s ih=>intro n h;exact ih _ (grK_in hW _ _ _ h)
 exact this s 0 ⟨by omega,by omega⟩
def pcW (L W:List Int) (p:Pc):Int:=if p.k=1 then bAt W (plc L p.u) else if p.k=3 then grt L W p.tl else 0
theorem pcW_in {L W:List Int} (hW:In64 W) (p:Pc):0≤pcW L W p∧pcW L W p≤64:=by
 unfold pcW
 split
 · exact hW _
 · split
   · exact grt_in hW _
   · exact ⟨by omega,by omega⟩
def pcS (L W:List Int):List Pc→Int
 | []=>0
 | p::l=>pcW L W p+pcS L W l
theorem pcS_snoc {L W:List Int} (l:List Pc) (p:Pc):pcS L W (l++[p])=pcS L W l+pcW L W p:=by
 induction l with
 | nil=>simp [pcS]
 | cons q l ih=>simp [pcS,ih];omega
theorem copN_snoc (l:List Pc) (p:Pc):copN (l++[p])=copN l+if p.k=2 then 1 else 0:=by
 induction l with
 | nil=>simp [copN]
 | cons q l ih=>simp [copN,ih];omega
theorem take_pc {l:List Pc} {k:Nat} (hk:k<l.length):l.take (k+1)=l.take k++[l[k]]:=by rw [List.take_add_one,List.getElem?_eq_getElem hk];rfl
def wnt (L W:List Int) (r:Rl):Int:=1+pcS L W (backP r) - ((r.key.length:Int) - 1 - copN (backP r))
structure SC (w:World) (lv wv:Value) (L W:List Int):Prop where
 l:IR w lv L
 w:IR w wv W
 e:W.length=L.length
 n:L.length≤4611686018427387903
 p:0<L.length
 b:In64 W
theorem piece_len {r:Rl} (hO:Ok r) {p:Pc} (hp:p∈backP r):p.tl.length≤4611686018427387903:=by
 have h1:=pc_ok (hO.pc p (List.mem_of_mem_drop hp))
 by_cases h2:p.k=3
 · have:=mayB_len hO hp
   rw [mayB,if_pos h2] at this
   omega
 · rcases h1 with ⟨_,_,_,h⟩ | ⟨_,_,h,_⟩ | ⟨h,_⟩
   · rw [h];simp
   · rw [h];simp
   · exact absurd h h2
set_option maxHeartbeats 4000000 in
theorem wants_any (lv wv:Value) (L W:List Int) (r:Rl) (av kv pv rv:Value) (w:World) (hS:SC w lv wv L W) (h:RR w av kv pv rv r) (hO:Ok r) :
 Calls Tryz.prog 87 #[.agg #[lv,wv],.agg #[.bool r.bg,av,kv,pv,.bool r.en,rv,.int .i64 r.cu]] w fun e w'=>e = .returned (.int .i64 (wnt L W r))∧Grown w w':=by
 have HPB:Hid (∀ wx,Calls Tryz.prog 85 #[.agg #[.bool r.bg,av,kv,pv,.bool r.en,rv,.int .i64 r.cu]] wx fun e w'=>∃ v,e = .returned v∧PR w v (backP r)∧Grown wx w'):=fun wx=>rback_any r av kv pv rv wx w h hO.c0 hO.c1
 have HPl:Hid (∀ (V:World) (u:Int),Grown w V→Calls Tryz.prog 88 #[lv,.int .i64 u] V fun e w'=>e = .returned (.int .i64 (plc L u))∧Grown V w'):=fun V u hg=>(place_any lv L u V (hS.l.grown hg) hS.n).mono fun _ _ ⟨h1,h2⟩=>⟨h1,by rw [h2];exact Grown.refl _⟩
 have HPg:Hid (∀ (V:World) (sv:Value) (s:List (Int × Int)),Grown w V→Rs V sv s→s.length≤4611686018427387903→Calls Tryz.prog 115 #[.agg #[lv,wv],sv] V fun e w'=>e = .returned (.int .i64 (grt L W s))∧Grown V w'):=fun V sv s hg hs hn=>greatest_any lv wv sv L W s V (hS.l.grown hg) (hS.w.grown hg) hS.e hs hS.n hn
 have HW:Hid (∀ V,Grown w V→IR V wv W):=fun V hg=>hS.w.grown hg
 have HB:Hid (In64 W∧0<L.length∧W.length=L.length):=⟨hS.b,hS.p,hS.e⟩
 have HPC:Hid (∀ p∈backP r,(p.k=1∨p.k=2∨p.k=3)∧p.tl.length≤4611686018427387903):=fun p hp=>⟨by rcases pc_ok (hO.pc p (List.mem_of_mem_drop hp)) with h | h | h <;> omega,piece_len hO hp⟩
 have HL:Hid ((backP r).length≤16∧1≤r.key.length∧r.key.length≤8):=by have:=hO.r16;exact ⟨by simp [backP];omega,hO.k0,hO.k8⟩
 obtain ⟨la,ln,lc,rfl⟩:=hS.l.sl
 obtain ⟨wa,wn,wc,rfl⟩:=hS.w.sl
 obtain ⟨N,hN⟩:∃ N,L.length=N:=⟨_,rfl⟩
 have hwn:wn=N:=by obtain ⟨_,_,e,_⟩:=hS.w;injection e with _ e2;have:=hS.e;omega
 have hln:ln=N:=by obtain ⟨_,_,e,_⟩:=hS.l;injection e with _ e2;omega
 have hNI:(N:Int)≤4611686018427387903:=by have:=hS.n;omega
 have HN:Hid (L.length=N):=hN
 subst hwn
 subst hln
 obtain ⟨a1,n1,c1,rfl⟩:=h.a.sl
 obtain ⟨ka,kc,hkv,_,_⟩:=h.k
 subst hkv
 obtain ⟨a3,n3,c3,rfl⟩:=h.p.sl
 obtain ⟨a5,n5,c5,rfl⟩:=h.r.sl
 obtain ⟨R,hR⟩:∃ R,wnt L W r=R:=⟨_,rfl⟩
 obtain ⟨kl,hkl⟩:∃ kl,r.key.length=kl:=⟨_,rfl⟩
 have HR:Hid (1+pcS L W (backP r) - ((kl:Int) - 1 - copN (backP r))=R):=by show _=R;rw [←hR,wnt,hkl]
 rw [hR]
 rw [hkl] at HPB HL ⊢
 have hkl8:(kl:Int)≤8:=by have:=HL.out;omega
 have hkl1:(1:Int)≤(kl:Int):=by have:=HL.out;omega
 obtain ⟨xb,hxb⟩:∃ xb,r.bg=xb:=⟨_,rfl⟩
 obtain ⟨xe,hxe⟩:∃ xe,r.en=xe:=⟨_,rfl⟩
 obtain ⟨xc,hxc⟩:∃ xc,r.cu=xc:=⟨_,rfl⟩
 rw [hxb,hxe,hxc] at HPB ⊢
 clear hR hxb hxe hxc h hO hS hN
 obtain ⟨W0,hW0⟩:∃ W0,W0=(w.alloc (.cells #[.slice la ln lc,.slice wa ln wc] 89)).alloc (.cells #[.bool xb,.slice a1 n1 c1,.slice ka kl kc,.slice a3 n3 c3,.bool xe,.slice a5 n5 c5,.int .i64 xc] 60):=⟨_,rfl⟩
 have HG0:Hid (Grown w W0):=by show Grown _ _;rw [hW0];exact ((Grown.refl _).alloc _).alloc _
 have b0:W0.heap[w.heap.size]? = some (.cells #[.slice la ln lc,.slice wa ln wc] 89 (0,0)):=by
  have g:Grown (w.alloc (.cells #[.slice la ln lc,.slice wa ln wc] 89)) W0:=by rw [hW0];exact (Grown.refl _).alloc _
  rw [g.below.block w.heap.size (by simp)];exact heap_alloc_new _ _
 have b1:W0.heap[w.heap.size+1]? = some (.cells #[.bool xb,.slice a1 n1 c1,.slice ka kl kc,.slice a3 n3 c3,.bool xe,.slice a5 n5 c5,.int .i64 xc] 60 (0,0)):=by
  rw [hW0];simpa using heap_alloc_new (w.alloc (.cells #[.slice la ln lc,.slice wa ln wc] 89)) (.cells #[.bool xb,.slice a1 n1 c1,.slice ka kl kc,.slice a3 n3 c3,.bool xe,.slice a5 n5 c5,.int .i64 xc] 60)
 have d0:W0.cell? ⟨w.heap.size,0,none⟩=some (.slice la ln lc):=by rw [cell_of b0];simp
 have d1:W0.cell? ⟨w.heap.size,1,none⟩=some (.slice wa ln wc):=by rw [cell_of b0];simp
 have f2:W0.cell? ⟨w.heap.size+1,2,none⟩=some (.slice ka kl kc):=by rw [cell_of b1];simp
 clear b0 b1
 go_enter Tryz.func87,Tryz.ntmps87
 go_wp2_with fail
 rw [←hW0]
 refine (HPB.out _).mono ?_
 rintro e w2 ⟨v,rfl,hPR,hG2⟩
 have HG2:Hid (Grown W0 w2):=hG2
 have HPR:Hid (PR w2 v (backP r)):=hPR.grown (HG0.out.trans hG2)
 obtain ⟨pa,pc,rfl,_,_⟩:=hPR
 obtain ⟨l,hl⟩:∃ l,backP r=l:=⟨_,rfl⟩
 rw [hl] at HPR HL HR HPC ⊢
 obtain ⟨nb,hnb⟩:∃ nb,l.length=nb:=⟨_,rfl⟩
 have HNB:Hid (l.length=nb):=hnb
 rw [hnb] at HPR HL ⊢
 have hnbI:(nb:Int)≤16:=by have:=HL.out;omega
 have e0:=hG2.cellv d0
 have e1:=hG2.cellv d1
 have e2:=hG2.cellv f2
 clear hnb hG2 HPB hl hW0 d0 d1 f2
 obtain ⟨bx,hbx⟩:∃ bx,w.heap.size=bx:=⟨_,rfl⟩
 rw [hbx] at e0 e1 e2 ⊢
 clear hbx
 go_wp2
 go_loopw [6,7,8] (fun vn vc vi wr=>∃ (k:Nat) (n c:Int),vi = .int .i64 k∧vn = .int .i64 n∧vc = .int .i64 c∧k≤nb∧Hid (n=1+pcS L W (l.take k)∧c=copN (l.take k))∧(0≤n∧n≤1+64*k)∧(0≤c∧c≤k)∧Grown w2 wr) (fun _ _ vi _=>nb - (intOf vi).toNat)
 case atStart=>exact ⟨0,1,0,rfl,rfl,rfl,by omega,⟨by simp [pcS],by simp [copN]⟩,⟨by omega,by omega⟩,⟨by omega,by omega⟩,Grown.refl _⟩
 case round=>
  obtain ⟨k,n,c,rfl,rfl,rfl,hk,HX,⟨hn0,hn1⟩,⟨hc0,hc1⟩,hG⟩:=hrel
  have hk0:(0:Int)≤(k:Int):=by omega
  by_cases hlt:k<nb
  · have hlt':(k:Int)<(nb:Int):=by omega
    have hkb:k<l.length:=by rw [HNB.out];exact hlt
    obtain ⟨a',c',e',_,hPr⟩:=HPR.out
    obtain ⟨pg,po,ha',hPd⟩:=hPr.resolve_left (fun e=>by rw [e] at hkb;simp at hkb)
    injection e' with e1' e2' e3'
    clear e2' e3'
    rw [ha'] at e1'
    subst e1'
    obtain ⟨tv,x0,x1,x2,x3,x4⟩:=hPd k hkb
    have y0:=hG.cellv x0
    obtain ⟨hkind,htl⟩:=HPC.out _ (List.getElem_mem hkb)
    have hS1:Hid (pcS L W (l.take (k+1))=pcS L W (l.take k)+pcW L W l[k]∧copN (l.take (k+1))=copN (l.take k)+if l[k].k=2 then 1 else 0):=⟨by rw [take_pc hkb,pcS_snoc],by rw [take_pc hkb,copN_snoc]⟩
    have hpw:=pcW_in (L:=L) HB.out.1 l[k]
    obtain ⟨p,hp⟩:∃ p,l[k]=p:=⟨_,rfl⟩
    rw [hp] at x0 x1 x4 y0 hkind htl hS1 hpw
    clear hPr ha' hPd hp
    obtain ⟨pk,hpk⟩:∃ pk,p.k=pk:=⟨_,rfl⟩
    rw [hpk] at y0 hkind
    rcases hkind with h1 | h1 | h1
    · as_aux_lemma=>
       subst h1
       have hpW:pcW L W p=bAt W (plc L p.u):=by rw [pcW,if_pos hpk]
       obtain ⟨u,hu⟩:∃ u,p.u=u:=⟨_,rfl⟩
       rw [hu] at hpW x1
       have hpl:=plc_lt u HB.out.2.1
       obtain ⟨pl,hpl'⟩:∃ pl,plc L u=pl:=⟨_,rfl⟩
       rw [hpl'] at hpW hpl
       rw [HN.out] at hpl
       have hplI:(pl:Int)<(ln:Int):=by omega
       have hpl0:(0:Int)≤(pl:Int):=by omega
       obtain ⟨wg,wo,hwa,cw⟩:=ir_cell (HW.out wr (HG0.out.trans (HG2.out.trans hG))) (j:=pl) (by rw [HB.out.2.2,HN.out];exact hpl)
       subst hwa
       rw [←hpW] at cw
       generalize pcW L W p=x at hpW cw hpw hS1
       have HC:Hid (∀ m os,Calls Tryz.prog 88 #[.slice la ln lc,.int .i64 u] (Go.Sort.grow (wr.drewN m) os) fun e w'=>e = .returned (.int .i64 pl)∧Grown (Go.Sort.grow (wr.drewN m) os) w'):=fun m os=>by
        have:=HPl.out _ u ((HG0.out.trans (HG2.out.trans hG)).quiet m os)
        rw [hpl'] at this;exact this
       have HGW:Hid (∀ m os,Grown w2 (Go.Sort.grow (wr.drewN m) os)):=fun m os=>hG.quiet m os
       have HF:Hid (n+x=1+pcS L W (l.take (k+1))∧c=copN (l.take (k+1))):=⟨by rw [hS1.out.1,HX.out.1];omega,by rw [hS1.out.2,HX.out.2,if_neg (by omega)];omega⟩
       have k0:=fun m os=>((Grown.refl wr).quiet m os).cellv (hG.cellv e0)
       have k1:=fun m os=>((Grown.refl wr).quiet m os).cellv (hG.cellv e1)
       have k2:=fun m os=>((Grown.refl wr).quiet m os).cellv (hG.cellv x1)
       have k3:=fun m os=>((Grown.refl wr).quiet m os).cellv cw
       clear hpW hpl' hu HX hS1 x0 x1 x2 x3 x4 hG cw e0 e1 e2 hpk
       go_wp2
       refine wp_region_quiet_grown mixed (by kernel_rfl) ?_
       repeat (go_big_quiet_step ((go_at_call 88;exact grown_of (HC.out _ _))))
       refine wpQuiet_nil ?_
       intro _ hw'
       obtain ⟨⟨nq,osq⟩,hw''⟩:=hw'
       subst hw''
       go_wp2
       exact ⟨⟨k+1,n+x,c,by go_num,by go_num,rfl,by omega,HF,⟨by omega,by omega⟩,⟨by omega,by omega⟩,HGW.out _ _⟩,by simp [intOf];omega⟩
    · as_aux_lemma=>
       subst h1
       have hpW:pcW L W p=0:=by rw [pcW,if_neg (by omega),if_neg (by omega)]
       have HF:Hid (n=1+pcS L W (l.take (k+1))∧c+1=copN (l.take (k+1))):=⟨by rw [hS1.out.1,HX.out.1,hpW];omega,by rw [hS1.out.2,HX.out.2,if_pos hpk]⟩
       clear hpW HX hS1 x0 x1 x2 x3 x4 e0 e1 e2 hpk hpw
       go_wp2
       exact ⟨⟨k+1,n,c+1,by go_num,rfl,by go_num,by omega,HF,⟨by omega,by omega⟩,⟨by omega,by omega⟩,hG⟩,by simp [intOf];omega⟩
    · as_aux_lemma=>
       subst h1
       have hpW:pcW L W p=grt L W p.tl:=by rw [pcW,if_neg (by omega),if_pos hpk]
       generalize pcW L W p=x at hpW hpw hS1
       have HTL:Hid (∀ V,Grown wr V→Rs V tv p.tl):=fun V hg=>x4.grown (hG.trans hg)
       obtain ⟨ta,tn,tc,rfl⟩:=x4.sl
       have HC:Hid (∀ m os,Calls Tryz.prog 115 #[.agg #[.slice la ln lc,.slice wa ln wc],.slice ta tn tc] (Go.Sort.grow (wr.drewN m) os) fun e w'=>e = .returned (.int .i64 x)∧Grown (Go.Sort.grow (wr.drewN m) os) w'):=fun m os=>by
        have:=HPg.out _ _ p.tl ((HG0.out.trans (HG2.out.trans hG)).quiet m os) (HTL.out _ ((Grown.refl wr).quiet m os)) htl
        rw [←hpW] at this;exact this
       have HGW:Hid (∀ m os,Grown w2 (Go.Sort.grow (wr.drewN m) os)):=fun m os=>hG.quiet m os
       have HF:Hid (n+x=1+pcS L W (l.take (k+1))∧c=copN (l.take (k+1))):=⟨by rw [hS1.out.1,HX.out.1];omega,by rw [hS1.out.2,HX.out.2,if_neg (by omega)];omega⟩
       have k0:=fun m os=>((Grown.refl wr).quiet m os).cellv (hG.cellv e0)
       have k1:=fun m os=>((Grown.refl wr).quiet m os).cellv (hG.cellv e1)
       have k2:=fun m os=>((Grown.refl wr).quiet m os).cellv (hG.cellv x3)
       clear hpW HX hS1 x0 x1 x2 x3 x4 hG e0 e1 e2 hpk htl
       go_wp2
       refine wp_region_quiet_grown mixed (by kernel_rfl) ?_
       repeat (go_big_quiet_step ((go_at_call 115;exact grown_of (HC.out _ _))))
       refine wpQuiet_nil ?_
       intro _ hw'
       obtain ⟨⟨nq,osq⟩,hw''⟩:=hw'
       subst hw''
       go_wp2
       exact ⟨⟨k+1,n+x,c,by go_num,by go_num,rfl,by omega,HF,⟨by omega,by omega⟩,⟨by omega,by omega⟩,HGW.out _ _⟩,by simp [intOf];omega⟩
  · as_aux_lemma=>
     have hge:¬ (k:Int)<(nb:Int):=by omega
     have hkn:k≤16:=by omega
     have HQ:Hid (n - ((kl:Int) - 1 - c)=R):=by
      show _=R
      rw [←HR.out]
      have:=HX.out
      rw [List.take_of_length_le (by rw [HNB.out];omega)] at this
      rw [this.1,this.2]
     have g2:=hG.cellv e2
     clear HX HR e0 e1 e2
     go_wp2
     go_ret
     exact ⟨by rw [HQ.out];rfl,HG0.out.trans (HG2.out.trans hG)⟩
theorem Hid.mk' {p:Prop} (h:p):Hid p:=h
theorem step_push2 {ops:Array Oper} {o:Oper} {a:Act} {K:Act→World→Prop} {Q:Exit→Act→World→Prop} {E:Prop} {w:World} (hgd:o.guard=none) (s x:Operand) (t:TypeId)
 (ho:o.op = .call { callee := .builtin .append,args:=#[s,x],argTypes:=#[t,t] }) (ht:Tryz.prog.underlying t=some (.slice 3))
 (base:Nat) (v:Value) (l:List Int) (hs:a.eval s=v) (hown:OwnI w base v l) (g c:Nat) (p q:Int) (hx:a.eval x = .slice (some ⟨g,0,none⟩) 2 c)
 (hp:w.cell? ⟨g,0,none⟩=some (.int .i64 p)) (hq:w.cell? ⟨g,1,none⟩=some (.int .i64 q)) (hl:l.length+2≤8796093022208) (hbase:base≤w.heap.size)
 (h:∀ v' w',OwnI w' base v' (l++[p,q])→Below base w w'→K (a.put o.dst v') w'):if Region.wanted o (yielded ops a.tmps)=true then Oper.wp Tryz.prog o a w K Q else E:=by
 obtain ⟨i0,hi,hz0,hz1,hz2⟩:=info_parts iinfo3
 refine step_append_lies w hgd s x t ho base 3 i0 (.int .i64 0) 1 8 ht hi hz0 hz1 hz2 rfl (by decide) v l.length (ints l) hs hown ⟨g,0,none⟩ 2 c (ints [p,q]) hx rfl ?_ (fun u hu=>by simp [ints] at hu;rcases hu with rfl | rfl <;> rfl) (by omega) (by unfold maxLen;omega) (by omega) hbase _ rfl (fun g' cap w' h2 h3 _ _=>h _ w' ?_ ((Below.refl _ w).grown h3 hbase (fun k hk=>(World.ownsRow.lt hown k hk).1)))
 · intro j u hj
   match j,hj with
   | 0,hj=>simp [ints] at hj;subst hj;exact hp
   | 1,hj=>simp [ints] at hj;subst hj;exact hq
 · unfold OwnI
   rw [ints_append,List.length_append]
   exact h2
def endsL (s:List (Int × Int)):List Int:=s.flatMap fun x=>[x.1,x.2+1]
theorem endsL_succ {s:List (Int × Int)} {k:Nat} (hk:k<s.length):endsL (s.take (k+1))=endsL (s.take k)++[(rg s k).1,(rg s k).2+1]:=by
 rw [List.take_add_one,List.getElem?_eq_getElem hk,rg_lt hk]
 unfold endsL
 rw [List.flatMap_append]
 simp
theorem endsL_len (s:List (Int × Int)):(endsL s).length=2*s.length:=by
 induction s with
 | nil=>rfl
 | cons x s ih=>simp [endsL] at ih ⊢;omega
theorem OwnI.sl {w:World} {base:Nat} {v:Value} {l:List Int} (h:OwnI w base v l):∃ a c,v = .slice a l.length c:=by
 obtain ⟨a,c,e,_⟩:=h.ir
 exact ⟨a,c,e⟩
set_option maxHeartbeats 4000000 in
theorem ends_any (v sv:Value) (l:List Int) (s:List (Int × Int)) (w w0:World) (hS:Rs w0 sv s) (hB:Below w0.heap.size w0 w) (hO:OwnI w w0.heap.size v l) (hb:∀ x∈s,-9000000000000000000≤x.2∧x.2≤9000000000000000000) (hl:l.length+2*s.length≤8796093022208) :
 Calls Tryz.prog 114 #[v,sv] w fun e w'=>∃ v',e = .returned v'∧OwnI w' w0.heap.size v' (l++endsL s)∧Below w0.heap.size w w':=by
 have HS:Hid (∀ V,Below w0.heap.size w V→Rs V sv s):=fun V hv=>hS.below (hB.trans hv) (Nat.le_refl _)
 have HB:Hid (∀ x∈s,-9000000000000000000≤x.2∧x.2≤9000000000000000000):=hb
 have HL:Hid (l.length+2*s.length≤8796093022208):=hl
 have HO:Hid (OwnI w w0.heap.size v l):=hO
 obtain ⟨sa,sc,hsv,_,_⟩:=hS
 subst hsv
 obtain ⟨n,hn⟩:∃ n,s.length=n:=⟨_,rfl⟩
 have HN:Hid (s.length=n):=hn
 rw [hn] at HS ⊢
 have hnI:(n:Int)≤8796093022208:=by omega
 obtain ⟨b0,hb0⟩:∃ b0,w0.heap.size=b0:=⟨_,rfl⟩
 have HZ:Hid (b0≤w.heap.size):=by have:=hB.size;show _≤_;omega
 rw [hb0] at HS HO ⊢
 obtain ⟨va,vc,rfl⟩:=hO.sl
 generalize l.length=vn at HO ⊢
 clear hn hb hl hO hB hb0
 go_enter Tryz.func114,Tryz.ntmps114
 go_wp2
 go_loopw [0,5] (fun vv vi wr=>∃ k:Nat,vi = .int .i64 k∧k≤n∧Hid (OwnI wr b0 vv (l++endsL (s.take k))∧Below b0 w wr)) (fun _ vi _=>n - (intOf vi).toNat)
 case atStart=>exact ⟨0,rfl,by omega,by simpa [endsL] using HO.out,Below.refl _ _⟩
 case round=>
  obtain ⟨k,rfl,hk,HX⟩:=hrel
  clear HO
  have hk0:(0:Int)≤(k:Int):=by omega
  by_cases hlt:k<n
  · have hlt':(k:Int)<(n:Int):=by omega
    have hks:k<s.length:=by rw [HN.out];exact hlt
    obtain ⟨a',c',e',_,hrr⟩:=HS.out wr HX.out.2
    obtain ⟨sg,so,ha',hrd⟩:=hrr.resolve_left (fun e=>by rw [e] at hks;simp at hks)
    injection e' with e1 e2 e3
    clear e2 e3
    rw [ha'] at e1
    subst e1
    obtain ⟨q1,q2⟩:=hrd k hks
    have hbd:=HB.out (rg s k) (by rw [rg_lt hks];exact List.getElem_mem hks)
    have HE:Hid (endsL (s.take (k+1))=endsL (s.take k)++[(rg s k).1,(rg s k).2+1]):=endsL_succ hks
    obtain ⟨x,hx⟩:∃ x,(rg s k).1=x:=⟨_,rfl⟩
    obtain ⟨y,hy⟩:∃ y,(rg s k).2=y:=⟨_,rfl⟩
    rw [hx] at q1 HE
    rw [hy] at q2 HE hbd
    obtain ⟨y0,y1⟩:=hbd
    have HY:Hid (IntKind.i64.wrap (y+1)=y+1):=IntWalk.i64_in _ ⟨by omega,by omega⟩
    obtain ⟨va',vc',rfl⟩:=HX.out.1.sl
    have HW:Hid (∀ W,Grown wr W→OwnI W b0 (.slice va' (l++endsL (s.take k)).length vc') (l++endsL (s.take k))∧b0≤W.heap.size):=fun W hg=>⟨HX.out.1.below hg.below (Nat.le_refl _),by have:=HX.out.2.size;have:=HZ.out;have:=hg.size;omega⟩
    have HLN:Hid ((l++endsL (s.take k)).length+2≤8796093022208):=by
     show _≤_
     have:=HL.out
     rw [List.length_append,endsL_len,List.length_take]
     omega
    have HF:Hid (∀ v' W w',Grown wr W→OwnI w' b0 v' ((l++endsL (s.take k))++[x,y+1])→Below b0 W w'→OwnI w' b0 v' (l++endsL (s.take (k+1)))∧Below b0 w w'):=fun v' W w' hg h1 h2=>⟨by rw [HE.out,←List.append_assoc];exact h1,(HX.out.2.trans (hg.below.mono (by have:=HX.out.2.size;have:=HZ.out;omega))).trans h2⟩
    generalize (l++endsL (s.take k)).length=vn at HW ⊢
    clear hrr hrd hx hy ha' HX
    go_wp2
    go_region_law (refine step_push2 rfl (.tmp 12) (.tmp 24) 49 rfl Tryz.underlying49 b0 (.slice va' vn vc') (l++endsL (s.take k)) rfl (HW.out _ (by (repeat (first | exact Grown.refl _ | refine Grown.alloc ?_ _ | refine Grown.drew ?_ | refine Grown.drewN ?_ _ | refine Grown.quiet ?_ _ _)))).1 _ _ x (y+1) rfl (by simp) (by first | (simp;done) | (simp;exact HY.out)) HLN.out (HW.out _ (by (repeat (first | exact Grown.refl _ | refine Grown.alloc ?_ _ | refine Grown.drew ?_ | refine Grown.drewN ?_ _ | refine Grown.quiet ?_ _ _)))).2 ?_;intro v2 w2 hO2 hB2;have HO2:Hid (OwnI w2 b0 v2 (l++endsL (s.take (k+1)))∧Below b0 w w2):=HF.out _ _ _ (by (repeat (first | exact Grown.refl _ | refine Grown.alloc ?_ _ | refine Grown.drew ?_ | refine Grown.drewN ?_ _ | refine Grown.quiet ?_ _ _))) hO2 hB2;clear hO2 hB2)
    all_goals (go_wp2;exact ⟨⟨k+1,by go_num,by omega,HO2⟩,by simp [intOf];omega⟩)
  · as_aux_lemma=>
     have hge:¬ (k:Int)<(n:Int):=by omega
     obtain ⟨hX1,hX2⟩:=HX.out
     rw [List.take_of_length_le (by rw [HN.out];omega)] at hX1
     have HQ:=Hid.mk' (And.intro hX1 hX2)
     clear hX1 hX2
     clear HX
     go_wp2
     go_ret
     exact ⟨_,rfl,HQ.out⟩
structure Srt (l m:List Int):Prop where
 p:m.Pairwise (· < ·)
 n:m.length≤l.length
 m:∀ x,x∈m↔x∈l
structure MJ (l a b o:List Int):Prop where
 pa:a.Pairwise (· < ·)
 pb:b.Pairwise (· < ·)
 po:o.Pairwise (· < ·)
 la:∀ x∈o,∀ y∈a,x<y
 lb:∀ x∈o,∀ y∈b,x<y
 m:∀ x,(x∈o∨x∈a∨x∈b)↔x∈l
 n:o.length+a.length+b.length≤l.length
theorem snoc_lt {o:List Int} {x:Int} (h:o.Pairwise (· < ·)) (k:∀ y∈o,y<x):(o++[x]).Pairwise (· < ·):=by
 rw [List.pairwise_append]
 exact ⟨h,List.pairwise_singleton _ _,fun a ha b hb=>by simp at hb;subst hb;exact k a ha⟩
theorem all_lt {x y:Int} {b:List Int} (h:(y::b).Pairwise (· < ·)) (hx:x<y):∀ z∈y::b,x<z:=by
 intro z hz
 rw [List.pairwise_cons] at h
 rcases List.mem_cons.1 hz with rfl | hz
 · exact hx
 · have:=h.1 z hz;omega
theorem MJ.left {l a b o:List Int} {x:Int} (h:MJ l (x::a) b o) (k:∀ y∈b,x<y):MJ l a b (o++[x]):=by
 have ha:=List.pairwise_cons.1 h.pa
 refine ⟨ha.2,h.pb,snoc_lt h.po (fun y hy=>h.la y hy x (by simp)),?_,?_,?_,?_⟩
 · intro z hz y hy
   rcases List.mem_append.1 hz with hz | hz
   · exact h.la z hz y (by simp [hy])
   · simp at hz;subst hz;exact ha.1 y hy
 · intro z hz y hy
   rcases List.mem_append.1 hz with hz | hz
   · exact h.lb z hz y hy
   · simp at hz;subst hz;exact k y hy
 · intro z
   rw [←h.m z]
   simp only [List.mem_append,List.mem_cons,List.not_mem_nil,or_false]
   constructor <;> (intro h;rcases h with h | h | h <;> first | (rcases h with h | h <;> simp [h];done) | (simp [h];done))
 · have:=h.n
   simp at this ⊢
   omega
theorem MJ.swap {l a b o:List Int} (h:MJ l a b o):MJ l b a o:=⟨h.pb,h.pa,h.po,h.lb,h.la,fun x=>by rw [←h.m x];constructor <;> (intro h;rcases h with h | h | h <;> simp [h]),by have:=h.n;omega⟩
theorem MJ.right {l a b o:List Int} {y:Int} (h:MJ l a (y::b) o) (k:∀ x∈a,y<x):MJ l a b (o++[y]):=(h.swap.left k).swap
theorem MJ.both {l a b o:List Int} {x:Int} (h:MJ l (x::a) (x::b) o):MJ l a b (o++[x]):=by
 have ha:=List.pairwise_cons.1 h.pa
 have hb:=List.pairwise_cons.1 h.pb
 refine ⟨ha.2,hb.2,snoc_lt h.po (fun y hy=>h.la y hy x (by simp)),?_,?_,?_,?_⟩
 · intro z hz y hy
   rcases List.mem_append.1 hz with hz | hz
   · exact h.la z hz y (by simp [hy])
   · simp at hz;subst hz;exact ha.1 y hy
 · intro z hz y hy
   rcases List.mem_append.1 hz with hz | hz
   · exact h.lb z hz y (by simp [hy])
   · simp at hz;subst hz;exact hb.1 y hy
 · intro z
   rw [←h.m z]
   simp only [List.mem_append,List.mem_cons,List.not_mem_nil,or_false]
   constructor
   · intro h;rcases h with (h | h) | h | h <;> simp [h]
   · intro h;rcases h with h | (h | h) | (h | h) <;> simp [h]
 · have:=h.n
   simp at this ⊢
   omega
theorem MJ.start {l a b:List Int} {n:Nat} (ha:Srt (l.take n) a) (hb:Srt (l.drop n) b):MJ l a b []:=by
 refine ⟨ha.p,hb.p,List.Pairwise.nil,by simp,by simp,?_,?_⟩
 · intro x
   rw [ha.m,hb.m]
   have e:x∈l↔x∈l.take n++l.drop n:=by rw [List.take_append_drop]
   rw [e,List.mem_append]
   simp
 · have:=ha.n
   have:=hb.n
   simp at *
   omega
theorem MJ.done {l o:List Int} (h:MJ l [] [] o):Srt l o:=⟨h.po,by have:=h.n;simp at this;omega,fun x=>by rw [←h.m x];simp⟩
theorem srt_small {l:List Int} (h:l.length<2):Srt l l:=by
 refine ⟨?_,Nat.le_refl _,fun _=>Iff.rfl⟩
 match l,h with
 | [],_=>exact List.Pairwise.nil
 | [x],_=>exact List.pairwise_singleton _ _
theorem ir_cons {w:World} {v:Value} {x:Int} {a:List Int} (h:IR w v (x::a)):∃ g o n c:Nat,v = .slice (some ⟨g,o,none⟩) n c∧n=a.length+1∧n≤c∧w.cell? ⟨g,o,none⟩=some (.int .i64 x)∧(c≠1→IR w (.slice (some ⟨g,o+1,none⟩) (n - 1) (c - 1)) a)∧(c=1→IR w (.slice (some ⟨g,o,none⟩) 0 0) a):=by
 obtain ⟨A,c,rfl,hc,hr⟩:=h
 obtain ⟨g,o,rfl,hd⟩:=hr.resolve_left (by simp)
 clear hr
 refine ⟨g,o,_,c,rfl,rfl,hc,?_,fun _=>⟨_,c - 1,by simp,by simp at hc;omega,.inr ⟨g,o+1,rfl,fun j hj => ?_⟩⟩,fun h1 => ?_⟩
 · exact hd 0 (by simp)
 · have:=hd (j+1) (by simpa using hj)
   rw [List.getElem_cons_succ] at this
   rw [←this,Nat.add_assoc,Nat.add_comm 1 j]
 · subst h1
   have:a=[]:=List.eq_nil_of_length_eq_zero (by rw [List.length_cons] at hc;omega)
   subst this
   exact ⟨_,0,rfl,Nat.le_refl _,.inl rfl⟩
theorem ir_nil {w:World} {v:Value} (h:IR w v []):∃ A c,v = .slice A 0 c:=by
 obtain ⟨A,c,rfl,_,_⟩:=h
 exact ⟨A,c,rfl⟩
theorem ir_take {w:World} {g o N c n:Nat} {l:List Int} (h:IR w (.slice (some ⟨g,o,none⟩) N c) l) (hn:n≤N):IR w (.slice (some ⟨g,o,none⟩) n c) (l.take n):=by
 obtain ⟨A,c',e,hc,hr⟩:=h
 injection e with e1 e2 e3
 subst e3
 have ht:(l.take n).length=n:=by rw [List.length_take];omega
 refine ⟨_,c,by rw [ht],by omega,?_⟩
 rcases hr with rfl | ⟨g',o',h1,hr⟩
 · exact .inl (by simp)
 · rw [←e1] at h1
   injection h1 with h1
   injection h1 with h1 h2
   subst h1 h2
   exact .inr ⟨g,o,rfl,fun j hj=>by rw [List.getElem_take];exact hr j (by omega)⟩
theorem ir_drop {w:World} {g o N c n:Nat} {l:List Int} (h:IR w (.slice (some ⟨g,o,none⟩) N c) l) (hn:n≤N):IR w (.slice (some ⟨g,o+n,none⟩) (N - n) (c - n)) (l.drop n):=by
 obtain ⟨A,c',e,hc,hr⟩:=h
 injection e with e1 e2 e3
 subst e3
 refine ⟨_,c - n,by rw [List.length_drop,e2],by rw [List.length_drop];omega,?_⟩
 rcases hr with rfl | ⟨g',o',h1,hr⟩
 · exact .inl (by simp)
 · rw [←e1] at h1
   injection h1 with h1
   injection h1 with h1 h2
   subst h1 h2
   exact .inr ⟨g,o+n,rfl,fun j hj=>by
    rw [List.length_drop] at hj
    have:=hr (n+j) (by omega)
    rw [List.getElem_drop,Nat.add_assoc]
    exact this⟩
theorem new_cell (W:World) (b:Nat) (x:Value) (t:TypeId) (h:W.heap.size=b):(W.alloc (.cells #[x] t)).cell? ⟨b,0,none⟩=some x:=by
 subst h
 simp
def SoQ (w:World) (l:List Int) (e:Ending) (w':World):Prop:=∃ v m,e = .returned v∧IR w' v m∧Srt l m∧Below w.heap.size w w'
set_option maxHeartbeats 4000000 in
theorem sorted_small (v:Value) (l:List Int) (w:World) (h2:l.length<2) (h:IR w v l):Calls Tryz.prog 79 #[v] w (SoQ w l):=by
 have HQ:Hid (SoQ w l (.returned v) w):=⟨v,l,rfl,h,srt_small h2,Below.refl _ _⟩
 obtain ⟨A,c,rfl,_,_⟩:=h
 generalize l.length=n at HQ h2 ⊢
 have hI:(n:Int)<2:=by omega
 go_enter Tryz.func79,Tryz.ntmps79
 go_wp2
 go_ret
 exact HQ.out
set_option maxHeartbeats 16000000 in
theorem sorted_any:∀ (k:Nat) (v:Value) (l:List Int) (w:World),l.length≤k→l.length≤1099511627776→IR w v l→Calls Tryz.prog 79 #[v] w (SoQ w l)
 | 0,v,l,w,hk,_,h=>sorted_small v l w (by omega) h
 | k+1,v,l,w,hk,hL,h=>by
  by_cases h2:l.length<2
  · exact sorted_small v l w h2 h
  have HI:Hid (∀ (v:Value) (l:List Int) (w:World),l.length≤k→l.length≤1099511627776→IR w v l→Calls Tryz.prog 79 #[v] w (SoQ w l)):=sorted_any k
  have HIR:Hid (IR w v l):=h
  obtain ⟨A,c,hv,hc,hr⟩:=h
  obtain ⟨g,o,hA,hd⟩:=hr.resolve_left (fun e=>by rw [e] at h2;simp at h2)
  clear hd
  subst hA
  subst hv
  obtain ⟨N,hN⟩:∃ N,l.length=N:=⟨_,rfl⟩
  have HN:Hid (l.length=N):=hN
  rw [hN] at HIR hc h2 hk hL ⊢
  obtain ⟨m,hm⟩:∃ m,N / 2=m:=⟨_,rfl⟩
  have hmI:(N:Int).tdiv 2=(m:Int):=by rw [Int.tdiv_eq_ediv_of_nonneg (by omega)];omega
  have hge:¬ (N:Int)<2:=by omega
  have hmN:(m:Int)≤(N:Int):=by omega
  have hm0:(0:Int)≤(m:Int):=by omega
  have hmc:(m:Int)≤(c:Int):=by omega
  have hNc:(N:Int)≤(c:Int):=by omega
  have hme:((m:Int) == (c:Int))=false:=by simp;omega
  have hmne:¬ m=c:=by omega
  have H1:Hid (Calls Tryz.prog 79 #[.slice (some ⟨g,o,none⟩) m c] w (SoQ w (l.take m))):=HI.out _ _ _ (by rw [List.length_take];omega) (by rw [List.length_take];omega) (ir_take HIR.out (by omega))
  have H2:Hid (∀ W,Below w.heap.size w W→Calls Tryz.prog 79 #[.slice (some ⟨g,o+m,none⟩) (N - m) (c - m)] W (SoQ W (l.drop m))):=fun W hb=>HI.out _ _ _ (by rw [List.length_drop];omega) (by rw [List.length_drop];omega) (ir_drop (HIR.out.below hb (Nat.le_refl _)) (by omega))
  have HL:Hid (N≤1099511627776):=hL
  have hmB:(m:Int)≤1099511627776:=by omega
  have hNB:(N:Int)≤1099511627776:=by omega
  clear hr hN HI hm hk hL
  go_enter Tryz.func79,Tryz.ntmps79
  go_wp2_with fail
  refine H1.out.mono ?_
  rintro e w1 ⟨va,la,rfl,hIa,hSa,hB1⟩
  have HA1:Hid (IR w1 va la∧Srt (l.take m) la∧Below w.heap.size w w1):=⟨hIa,hSa,hB1⟩
  obtain ⟨xa,na,ya,hva⟩:=hIa.sl
  subst hva
  clear hIa hSa hB1 H1
  go_wp2_with fail
  have H2':=H2.out w1 HA1.out.2.2
  refine H2'.mono ?_
  rintro e w2 ⟨vb,lb,rfl,hIb,hSb,hB2⟩
  have HA:Hid (IR w2 (.slice xa na ya) la∧IR w2 vb lb∧MJ l la lb []∧Below w.heap.size w w2):=⟨HA1.out.1.below hB2 (Nat.le_refl _),hIb,MJ.start HA1.out.2.1 hSb,HA1.out.2.2.trans (hB2.mono HA1.out.2.2.size)⟩
  obtain ⟨xb,nb,yb,hvb⟩:=hIb.sl
  subst hvb
  clear hIb hSb hB2 HA1 H2 H2' HIR
  go_wp2
  obtain ⟨w3,hw3⟩:∃ w3,w3=w2.alloc (.cells #[] 3):=⟨_,rfl⟩
  have HO3:Hid (OwnI w3 w2.heap.size (.slice (some ⟨w2.heap.size,0,none⟩) 0 0) []∧Below w2.heap.size w2 w3):=by
   rw [hw3]
   exact ⟨NewI.own ⟨w2.heap.size,rfl,Nat.le_refl _,Array.getElem?_push_size⟩ (Nat.zero_le _),((Grown.refl w2).alloc _).below⟩
  rw [←hw3]
  clear hw3
  go_loopg [4,5,6] (la.length+lb.length) (fun f va vb vo wr=>Hid (∃ a b oo,IR w2 va a∧IR w2 vb b∧OwnI wr w2.heap.size vo oo∧Below w2.heap.size w2 wr∧MJ l a b oo∧a.length+b.length=f))
  case atStart=>exact ⟨la,lb,[],HA.out.1,HA.out.2.1,HO3.out.1,HO3.out.2,HA.out.2.2.1,rfl⟩
  case round=>
   have HB:Hid (Below w.heap.size w w2):=HA.out.2.2.2
   clear HA HO3
   obtain ⟨a,b,oo,ha,hb,hoo,hB,hJ,hf⟩:=hrel.out
   clear hrel
   have HAa:Hid (IR w2 u4 a):=ha
   have HAb:Hid (IR w2 u5 b):=hb
   have HO:Hid (OwnI wr w2.heap.size u6 oo):=hoo
   have HW:Hid (Below w2.heap.size w2 wr):=hB
   have HJ:Hid (MJ l a b oo):=hJ
   have HF:Hid (a.length+b.length=gk):=hf
   have HLo:Hid (oo.length+1≤8796093022208∨(a=[]∧b=[])):=by
    have h1:=hJ.n
    rw [HN.out] at h1
    have h2:=HL.out
    exact .inl (by omega)
   obtain ⟨vo,no,co,hvo⟩:=hoo.ir.sl
   subst hvo
   clear ha hb hoo hB hJ hf
   match a,b,HAa,HAb,HJ,HF,HLo with
   | [],[],HAa,HAb,HJ,HF,HLo=>
    as_aux_lemma=>
     obtain ⟨A1,c1,rfl⟩:=ir_nil HAa.out
     obtain ⟨A2,c2,rfl⟩:=ir_nil HAb.out
     have HQ:Hid (SoQ w l (.returned (.slice vo no co)) wr):=⟨_,_,rfl,HO.out.ir,HJ.out.done,HB.out.trans (HW.out.mono HB.out.size)⟩
     clear HAa HAb HJ HF HLo HO
     go_wp2
     go_ret
     exact HQ.out
   | x::a,[],HAa,HAb,HJ,HF,HLo=>
    as_aux_lemma=>
     have HLL:Hid (oo.length+1≤8796093022208):=HLo.out.resolve_right (by simp)
     obtain ⟨ga,oa,na,ca,rfl,hna,hca,qa,Ta,Ua⟩:=ir_cons HAa.out
     have TTa:Hid (ca≠1→IR w2 (.slice (some ⟨ga,oa+1,none⟩) (na - 1) (ca - 1)) a):=Ta
     have UUa:Hid (ca=1→IR w2 (.slice (some ⟨ga,oa,none⟩) 0 0) a):=Ua
     have pa:=cell_below qa HW.out (Nat.le_refl _)
     have h0a:0<na:=by omega
     have i0a:(0:Int)<(na:Int):=by omega
     have i1a:(1:Int)≤(na:Int):=by omega
     have ica:(na:Int)≤(ca:Int):=by omega
     have d0a:decide (0<na)=true:=by simp;omega
     have e0a:(na == 0)=false:=by simp;omega
     have f0a:((na:Int) == 0)=false:=by simp;omega
     have HNa:Hid (na=a.length+1):=hna
     clear hna qa Ta Ua HAa
     obtain ⟨Ab,cb,rfl⟩:=ir_nil HAb.out
     have HNb:Hid (IR w2 (.slice Ab 0 cb) []):=HAb.out
     clear HAb
     have HP:Hid (∀ W,Grown wr W→OwnI W w2.heap.size (.slice vo no co) oo∧w2.heap.size≤W.heap.size∧Below w2.heap.size w2 W):=fun W hg=>by
      have hb6:Below wr.heap.size wr W:=hg.below
      exact ⟨HO.out.below hb6 (Nat.le_refl _),Nat.le_trans HW.out.size hb6.size,HW.out.trans (hb6.mono HW.out.size)⟩
     have HJ2:Hid (MJ l a [] (oo++[x])):=HJ.out.left (by simp)
     clear HJ HLo HO
     by_cases hxa:ca=1
     · have Ra:Hid (IR w2 (.slice (some ⟨ga,oa,none⟩) 0 0) a):=UUa.out hxa
       subst hxa
       clear TTa UUa
       go_wp2
       go_quiet (fail)
       skip
       go_wp2_with (at_builtin;go_must (refine push_I rfl _ _ 49 rfl Tryz.underlying49 w2.heap.size _ oo rfl (HP.out _ (by (repeat (first | exact Grown.refl _ | refine Grown.alloc ?_ _ | refine Grown.drew ?_ | refine Grown.drewN ?_ _ | refine Grown.quiet ?_ _ _)))).1 _ _ x rfl (by (first | (simp;done) | exact new_cell _ _ _ _ rfl)) HLL.out (HP.out _ (by (repeat (first | exact Grown.refl _ | refine Grown.alloc ?_ _ | refine Grown.drew ?_ | refine Grown.drewN ?_ _ | refine Grown.quiet ?_ _ _)))).2.1 ?_;intro v3 w3 hO3 hB3;have HE:Hid (OwnI w3 w2.heap.size v3 (oo++[x])∧Below w2.heap.size w2 w3):=⟨hO3,(HP.out _ (by (repeat (first | exact Grown.refl _ | refine Grown.alloc ?_ _ | refine Grown.drew ?_ | refine Grown.drewN ?_ _ | refine Grown.quiet ?_ _ _)))).2.2.trans hB3⟩;clear hO3 hB3))
       try go_wp2
       go_roundg (gk - 1)
       case measure=>have:=HF.out;simp at this;omega
       case rel=>exact ⟨_,_,oo++[x],Ra.out,HNb.out,HE.out.1,HE.out.2,HJ2.out,by have:=HF.out;simp at this ⊢;omega⟩
     · have Ra:Hid (IR w2 (.slice (some ⟨ga,oa+1,none⟩) (na - 1) (ca - 1)) a):=TTa.out hxa
       have x1a:((1:Int) == (ca:Int))=false:=by simp;omega
       have x2a:¬ 1=ca:=by omega
       clear TTa UUa
       go_wp2
       go_quiet (fail)
       skip
       go_wp2_with (at_builtin;go_must (refine push_I rfl _ _ 49 rfl Tryz.underlying49 w2.heap.size _ oo rfl (HP.out _ (by (repeat (first | exact Grown.refl _ | refine Grown.alloc ?_ _ | refine Grown.drew ?_ | refine Grown.drewN ?_ _ | refine Grown.quiet ?_ _ _)))).1 _ _ x rfl (by (first | (simp;done) | exact new_cell _ _ _ _ rfl)) HLL.out (HP.out _ (by (repeat (first | exact Grown.refl _ | refine Grown.alloc ?_ _ | refine Grown.drew ?_ | refine Grown.drewN ?_ _ | refine Grown.quiet ?_ _ _)))).2.1 ?_;intro v3 w3 hO3 hB3;have HE:Hid (OwnI w3 w2.heap.size v3 (oo++[x])∧Below w2.heap.size w2 w3):=⟨hO3,(HP.out _ (by (repeat (first | exact Grown.refl _ | refine Grown.alloc ?_ _ | refine Grown.drew ?_ | refine Grown.drewN ?_ _ | refine Grown.quiet ?_ _ _)))).2.2.trans hB3⟩;clear hO3 hB3))
       try go_wp2
       go_roundg (gk - 1)
       case measure=>have:=HF.out;simp at this;omega
       case rel=>exact ⟨_,_,oo++[x],Ra.out,HNb.out,HE.out.1,HE.out.2,HJ2.out,by have:=HF.out;simp at this ⊢;omega⟩
   | [],y::b,HAa,HAb,HJ,HF,HLo=>
    as_aux_lemma=>
     have HLL:Hid (oo.length+1≤8796093022208):=HLo.out.resolve_right (by simp)
     obtain ⟨gb,ob,nb,cb,rfl,hnb,hcb,qb,Tb,Ub⟩:=ir_cons HAb.out
     have TTb:Hid (cb≠1→IR w2 (.slice (some ⟨gb,ob+1,none⟩) (nb - 1) (cb - 1)) b):=Tb
     have UUb:Hid (cb=1→IR w2 (.slice (some ⟨gb,ob,none⟩) 0 0) b):=Ub
     have pb:=cell_below qb HW.out (Nat.le_refl _)
     have h0b:0<nb:=by omega
     have i0b:(0:Int)<(nb:Int):=by omega
     have i1b:(1:Int)≤(nb:Int):=by omega
     have icb:(nb:Int)≤(cb:Int):=by omega
     have d0b:decide (0<nb)=true:=by simp;omega
     have e0b:(nb == 0)=false:=by simp;omega
     have f0b:((nb:Int) == 0)=false:=by simp;omega
     have HNb:Hid (nb=b.length+1):=hnb
     clear hnb qb Tb Ub HAb
     obtain ⟨Aa,ca,rfl⟩:=ir_nil HAa.out
     have HNa:Hid (IR w2 (.slice Aa 0 ca) []):=HAa.out
     clear HAa
     have HP:Hid (∀ W,Grown wr W→OwnI W w2.heap.size (.slice vo no co) oo∧w2.heap.size≤W.heap.size∧Below w2.heap.size w2 W):=fun W hg=>by
      have hb6:Below wr.heap.size wr W:=hg.below
      exact ⟨HO.out.below hb6 (Nat.le_refl _),Nat.le_trans HW.out.size hb6.size,HW.out.trans (hb6.mono HW.out.size)⟩
     have HJ2:Hid (MJ l [] b (oo++[y])):=HJ.out.right (by simp)
     clear HJ HLo HO
     by_cases hxb:cb=1
     · have Rb:Hid (IR w2 (.slice (some ⟨gb,ob,none⟩) 0 0) b):=UUb.out hxb
       subst hxb
       clear TTb UUb
       go_wp2
       go_quiet (fail)
       go_wp2;go_quiet (fail)
       go_wp2_with (at_builtin;go_must (refine push_I rfl _ _ 49 rfl Tryz.underlying49 w2.heap.size _ oo rfl (HP.out _ (by (repeat (first | exact Grown.refl _ | refine Grown.alloc ?_ _ | refine Grown.drew ?_ | refine Grown.drewN ?_ _ | refine Grown.quiet ?_ _ _)))).1 _ _ y rfl (by (first | (simp;done) | exact new_cell _ _ _ _ rfl)) HLL.out (HP.out _ (by (repeat (first | exact Grown.refl _ | refine Grown.alloc ?_ _ | refine Grown.drew ?_ | refine Grown.drewN ?_ _ | refine Grown.quiet ?_ _ _)))).2.1 ?_;intro v3 w3 hO3 hB3;have HE:Hid (OwnI w3 w2.heap.size v3 (oo++[y])∧Below w2.heap.size w2 w3):=⟨hO3,(HP.out _ (by (repeat (first | exact Grown.refl _ | refine Grown.alloc ?_ _ | refine Grown.drew ?_ | refine Grown.drewN ?_ _ | refine Grown.quiet ?_ _ _)))).2.2.trans hB3⟩;clear hO3 hB3))
       try go_wp2
       go_roundg (gk - 1)
       case measure=>have:=HF.out;simp at this;omega
       case rel=>exact ⟨_,_,oo++[y],HNa.out,Rb.out,HE.out.1,HE.out.2,HJ2.out,by have:=HF.out;simp at this ⊢;omega⟩
     · have Rb:Hid (IR w2 (.slice (some ⟨gb,ob+1,none⟩) (nb - 1) (cb - 1)) b):=TTb.out hxb
       have x1b:((1:Int) == (cb:Int))=false:=by simp;omega
       have x2b:¬ 1=cb:=by omega
       clear TTb UUb
       go_wp2
       go_quiet (fail)
       go_wp2;go_quiet (fail)
       go_wp2_with (at_builtin;go_must (refine push_I rfl _ _ 49 rfl Tryz.underlying49 w2.heap.size _ oo rfl (HP.out _ (by (repeat (first | exact Grown.refl _ | refine Grown.alloc ?_ _ | refine Grown.drew ?_ | refine Grown.drewN ?_ _ | refine Grown.quiet ?_ _ _)))).1 _ _ y rfl (by (first | (simp;done) | exact new_cell _ _ _ _ rfl)) HLL.out (HP.out _ (by (repeat (first | exact Grown.refl _ | refine Grown.alloc ?_ _ | refine Grown.drew ?_ | refine Grown.drewN ?_ _ | refine Grown.quiet ?_ _ _)))).2.1 ?_;intro v3 w3 hO3 hB3;have HE:Hid (OwnI w3 w2.heap.size v3 (oo++[y])∧Below w2.heap.size w2 w3):=⟨hO3,(HP.out _ (by (repeat (first | exact Grown.refl _ | refine Grown.alloc ?_ _ | refine Grown.drew ?_ | refine Grown.drewN ?_ _ | refine Grown.quiet ?_ _ _)))).2.2.trans hB3⟩;clear hO3 hB3))
       try go_wp2
       go_roundg (gk - 1)
       case measure=>have:=HF.out;simp at this;omega
       case rel=>exact ⟨_,_,oo++[y],HNa.out,Rb.out,HE.out.1,HE.out.2,HJ2.out,by have:=HF.out;simp at this ⊢;omega⟩
   | x::a,y::b,HAa,HAb,HJ,HF,HLo=>
    as_aux_lemma=>
     have HLL:Hid (oo.length+1≤8796093022208):=HLo.out.resolve_right (by simp)
     obtain ⟨ga,oa,na,ca,rfl,hna,hca,qa,Ta,Ua⟩:=ir_cons HAa.out
     have TTa:Hid (ca≠1→IR w2 (.slice (some ⟨ga,oa+1,none⟩) (na - 1) (ca - 1)) a):=Ta
     have UUa:Hid (ca=1→IR w2 (.slice (some ⟨ga,oa,none⟩) 0 0) a):=Ua
     have pa:=cell_below qa HW.out (Nat.le_refl _)
     have h0a:0<na:=by omega
     have i0a:(0:Int)<(na:Int):=by omega
     have i1a:(1:Int)≤(na:Int):=by omega
     have ica:(na:Int)≤(ca:Int):=by omega
     have d0a:decide (0<na)=true:=by simp;omega
     have e0a:(na == 0)=false:=by simp;omega
     have f0a:((na:Int) == 0)=false:=by simp;omega
     have HNa:Hid (na=a.length+1):=hna
     clear hna qa Ta Ua
     obtain ⟨gb,ob,nb,cb,rfl,hnb,hcb,qb,Tb,Ub⟩:=ir_cons HAb.out
     have TTb:Hid (cb≠1→IR w2 (.slice (some ⟨gb,ob+1,none⟩) (nb - 1) (cb - 1)) b):=Tb
     have UUb:Hid (cb=1→IR w2 (.slice (some ⟨gb,ob,none⟩) 0 0) b):=Ub
     have pb:=cell_below qb HW.out (Nat.le_refl _)
     have h0b:0<nb:=by omega
     have i0b:(0:Int)<(nb:Int):=by omega
     have i1b:(1:Int)≤(nb:Int):=by omega
     have icb:(nb:Int)≤(cb:Int):=by omega
     have d0b:decide (0<nb)=true:=by simp;omega
     have e0b:(nb == 0)=false:=by simp;omega
     have f0b:((nb:Int) == 0)=false:=by simp;omega
     have HNb:Hid (nb=b.length+1):=hnb
     clear hnb qb Tb Ub
     have HP:Hid (∀ W,Grown wr W→OwnI W w2.heap.size (.slice vo no co) oo∧w2.heap.size≤W.heap.size∧Below w2.heap.size w2 W):=fun W hg=>by
      have hb6:Below wr.heap.size wr W:=hg.below
      exact ⟨HO.out.below hb6 (Nat.le_refl _),Nat.le_trans HW.out.size hb6.size,HW.out.trans (hb6.mono HW.out.size)⟩
     rcases Int.lt_trichotomy x y with hxy | hxy | hxy
     · as_aux_lemma=>
        have HJ2:Hid (MJ l a (y::b) (oo++[x])):=HJ.out.left (all_lt HJ.out.pb hxy)
        clear HJ HLo HO
        by_cases hxa:ca=1
        · have Ra:Hid (IR w2 (.slice (some ⟨ga,oa,none⟩) 0 0) a):=UUa.out hxa
          subst hxa
          clear TTa UUa
          go_wp2
          go_quiet (fail)
          skip
          go_wp2_with (at_builtin;go_must (refine push_I rfl _ _ 49 rfl Tryz.underlying49 w2.heap.size _ oo rfl (HP.out _ (by (repeat (first | exact Grown.refl _ | refine Grown.alloc ?_ _ | refine Grown.drew ?_ | refine Grown.drewN ?_ _ | refine Grown.quiet ?_ _ _)))).1 _ _ x rfl (by (first | (simp;done) | exact new_cell _ _ _ _ rfl)) HLL.out (HP.out _ (by (repeat (first | exact Grown.refl _ | refine Grown.alloc ?_ _ | refine Grown.drew ?_ | refine Grown.drewN ?_ _ | refine Grown.quiet ?_ _ _)))).2.1 ?_;intro v3 w3 hO3 hB3;have HE:Hid (OwnI w3 w2.heap.size v3 (oo++[x])∧Below w2.heap.size w2 w3):=⟨hO3,(HP.out _ (by (repeat (first | exact Grown.refl _ | refine Grown.alloc ?_ _ | refine Grown.drew ?_ | refine Grown.drewN ?_ _ | refine Grown.quiet ?_ _ _)))).2.2.trans hB3⟩;clear hO3 hB3))
          try go_wp2
          go_roundg (gk - 1)
          case measure=>have:=HF.out;simp at this;omega
          case rel=>exact ⟨_,_,oo++[x],Ra.out,HAb.out,HE.out.1,HE.out.2,HJ2.out,by have:=HF.out;simp at this ⊢;omega⟩
        · have Ra:Hid (IR w2 (.slice (some ⟨ga,oa+1,none⟩) (na - 1) (ca - 1)) a):=TTa.out hxa
          have x1a:((1:Int) == (ca:Int))=false:=by simp;omega
          have x2a:¬ 1=ca:=by omega
          clear TTa UUa
          go_wp2
          go_quiet (fail)
          skip
          go_wp2_with (at_builtin;go_must (refine push_I rfl _ _ 49 rfl Tryz.underlying49 w2.heap.size _ oo rfl (HP.out _ (by (repeat (first | exact Grown.refl _ | refine Grown.alloc ?_ _ | refine Grown.drew ?_ | refine Grown.drewN ?_ _ | refine Grown.quiet ?_ _ _)))).1 _ _ x rfl (by (first | (simp;done) | exact new_cell _ _ _ _ rfl)) HLL.out (HP.out _ (by (repeat (first | exact Grown.refl _ | refine Grown.alloc ?_ _ | refine Grown.drew ?_ | refine Grown.drewN ?_ _ | refine Grown.quiet ?_ _ _)))).2.1 ?_;intro v3 w3 hO3 hB3;have HE:Hid (OwnI w3 w2.heap.size v3 (oo++[x])∧Below w2.heap.size w2 w3):=⟨hO3,(HP.out _ (by (repeat (first | exact Grown.refl _ | refine Grown.alloc ?_ _ | refine Grown.drew ?_ | refine Grown.drewN ?_ _ | refine Grown.quiet ?_ _ _)))).2.2.trans hB3⟩;clear hO3 hB3))
          try go_wp2
          go_roundg (gk - 1)
          case measure=>have:=HF.out;simp at this;omega
          case rel=>exact ⟨_,_,oo++[x],Ra.out,HAb.out,HE.out.1,HE.out.2,HJ2.out,by have:=HF.out;simp at this ⊢;omega⟩
     · as_aux_lemma=>
        subst hxy
        have HJ2:Hid (MJ l a b (oo++[x])):=HJ.out.both
        have hxn:¬ x<x:=by omega
        clear HJ HLo HO
        by_cases hxa:ca=1
        · have Ra:Hid (IR w2 (.slice (some ⟨ga,oa,none⟩) 0 0) a):=UUa.out hxa
          subst hxa
          clear TTa UUa
          by_cases hxb:cb=1
          · have Rb:Hid (IR w2 (.slice (some ⟨gb,ob,none⟩) 0 0) b):=UUb.out hxb
            subst hxb
            clear TTb UUb
            go_wp2
            go_quiet (fail)
            go_wp2;go_quiet (fail)
            go_wp2_with (at_builtin;go_must (refine push_I rfl _ _ 49 rfl Tryz.underlying49 w2.heap.size _ oo rfl (HP.out _ (by (repeat (first | exact Grown.refl _ | refine Grown.alloc ?_ _ | refine Grown.drew ?_ | refine Grown.drewN ?_ _ | refine Grown.quiet ?_ _ _)))).1 _ _ x rfl (by (first | (simp;done) | exact new_cell _ _ _ _ rfl)) HLL.out (HP.out _ (by (repeat (first | exact Grown.refl _ | refine Grown.alloc ?_ _ | refine Grown.drew ?_ | refine Grown.drewN ?_ _ | refine Grown.quiet ?_ _ _)))).2.1 ?_;intro v3 w3 hO3 hB3;have HE:Hid (OwnI w3 w2.heap.size v3 (oo++[x])∧Below w2.heap.size w2 w3):=⟨hO3,(HP.out _ (by (repeat (first | exact Grown.refl _ | refine Grown.alloc ?_ _ | refine Grown.drew ?_ | refine Grown.drewN ?_ _ | refine Grown.quiet ?_ _ _)))).2.2.trans hB3⟩;clear hO3 hB3))
            try go_wp2
            go_roundg (gk - 2)
            case measure=>have:=HF.out;simp at this;omega
            case rel=>exact ⟨_,_,oo++[x],Ra.out,Rb.out,HE.out.1,HE.out.2,HJ2.out,by have:=HF.out;simp at this ⊢;omega⟩
          · have Rb:Hid (IR w2 (.slice (some ⟨gb,ob+1,none⟩) (nb - 1) (cb - 1)) b):=TTb.out hxb
            have x1b:((1:Int) == (cb:Int))=false:=by simp;omega
            have x2b:¬ 1=cb:=by omega
            clear TTb UUb
            go_wp2
            go_quiet (fail)
            go_wp2;go_quiet (fail)
            go_wp2_with (at_builtin;go_must (refine push_I rfl _ _ 49 rfl Tryz.underlying49 w2.heap.size _ oo rfl (HP.out _ (by (repeat (first | exact Grown.refl _ | refine Grown.alloc ?_ _ | refine Grown.drew ?_ | refine Grown.drewN ?_ _ | refine Grown.quiet ?_ _ _)))).1 _ _ x rfl (by (first | (simp;done) | exact new_cell _ _ _ _ rfl)) HLL.out (HP.out _ (by (repeat (first | exact Grown.refl _ | refine Grown.alloc ?_ _ | refine Grown.drew ?_ | refine Grown.drewN ?_ _ | refine Grown.quiet ?_ _ _)))).2.1 ?_;intro v3 w3 hO3 hB3;have HE:Hid (OwnI w3 w2.heap.size v3 (oo++[x])∧Below w2.heap.size w2 w3):=⟨hO3,(HP.out _ (by (repeat (first | exact Grown.refl _ | refine Grown.alloc ?_ _ | refine Grown.drew ?_ | refine Grown.drewN ?_ _ | refine Grown.quiet ?_ _ _)))).2.2.trans hB3⟩;clear hO3 hB3))
            try go_wp2
            go_roundg (gk - 2)
            case measure=>have:=HF.out;simp at this;omega
            case rel=>exact ⟨_,_,oo++[x],Ra.out,Rb.out,HE.out.1,HE.out.2,HJ2.out,by have:=HF.out;simp at this ⊢;omega⟩
        · have Ra:Hid (IR w2 (.slice (some ⟨ga,oa+1,none⟩) (na - 1) (ca - 1)) a):=TTa.out hxa
          have x1a:((1:Int) == (ca:Int))=false:=by simp;omega
          have x2a:¬ 1=ca:=by omega
          clear TTa UUa
          by_cases hxb:cb=1
          · have Rb:Hid (IR w2 (.slice (some ⟨gb,ob,none⟩) 0 0) b):=UUb.out hxb
            subst hxb
            clear TTb UUb
            go_wp2
            go_quiet (fail)
            go_wp2;go_quiet (fail)
            go_wp2_with (at_builtin;go_must (refine push_I rfl _ _ 49 rfl Tryz.underlying49 w2.heap.size _ oo rfl (HP.out _ (by (repeat (first | exact Grown.refl _ | refine Grown.alloc ?_ _ | refine Grown.drew ?_ | refine Grown.drewN ?_ _ | refine Grown.quiet ?_ _ _)))).1 _ _ x rfl (by (first | (simp;done) | exact new_cell _ _ _ _ rfl)) HLL.out (HP.out _ (by (repeat (first | exact Grown.refl _ | refine Grown.alloc ?_ _ | refine Grown.drew ?_ | refine Grown.drewN ?_ _ | refine Grown.quiet ?_ _ _)))).2.1 ?_;intro v3 w3 hO3 hB3;have HE:Hid (OwnI w3 w2.heap.size v3 (oo++[x])∧Below w2.heap.size w2 w3):=⟨hO3,(HP.out _ (by (repeat (first | exact Grown.refl _ | refine Grown.alloc ?_ _ | refine Grown.drew ?_ | refine Grown.drewN ?_ _ | refine Grown.quiet ?_ _ _)))).2.2.trans hB3⟩;clear hO3 hB3))
            try go_wp2
            go_roundg (gk - 2)
            case measure=>have:=HF.out;simp at this;omega
            case rel=>exact ⟨_,_,oo++[x],Ra.out,Rb.out,HE.out.1,HE.out.2,HJ2.out,by have:=HF.out;simp at this ⊢;omega⟩
          · have Rb:Hid (IR w2 (.slice (some ⟨gb,ob+1,none⟩) (nb - 1) (cb - 1)) b):=TTb.out hxb
            have x1b:((1:Int) == (cb:Int))=false:=by simp;omega
            have x2b:¬ 1=cb:=by omega
            clear TTb UUb
            go_wp2
            go_quiet (fail)
            go_wp2;go_quiet (fail)
            go_wp2_with (at_builtin;go_must (refine push_I rfl _ _ 49 rfl Tryz.underlying49 w2.heap.size _ oo rfl (HP.out _ (by (repeat (first | exact Grown.refl _ | refine Grown.alloc ?_ _ | refine Grown.drew ?_ | refine Grown.drewN ?_ _ | refine Grown.quiet ?_ _ _)))).1 _ _ x rfl (by (first | (simp;done) | exact new_cell _ _ _ _ rfl)) HLL.out (HP.out _ (by (repeat (first | exact Grown.refl _ | refine Grown.alloc ?_ _ | refine Grown.drew ?_ | refine Grown.drewN ?_ _ | refine Grown.quiet ?_ _ _)))).2.1 ?_;intro v3 w3 hO3 hB3;have HE:Hid (OwnI w3 w2.heap.size v3 (oo++[x])∧Below w2.heap.size w2 w3):=⟨hO3,(HP.out _ (by (repeat (first | exact Grown.refl _ | refine Grown.alloc ?_ _ | refine Grown.drew ?_ | refine Grown.drewN ?_ _ | refine Grown.quiet ?_ _ _)))).2.2.trans hB3⟩;clear hO3 hB3))
            try go_wp2
            go_roundg (gk - 2)
            case measure=>have:=HF.out;simp at this;omega
            case rel=>exact ⟨_,_,oo++[x],Ra.out,Rb.out,HE.out.1,HE.out.2,HJ2.out,by have:=HF.out;simp at this ⊢;omega⟩
     · as_aux_lemma=>
        have HJ2:Hid (MJ l (x::a) b (oo++[y])):=HJ.out.right (all_lt HJ.out.pa hxy)
        have hxn:¬ x<y:=by omega
        have hxd:decide (x<y)=false:=by simp;omega
        clear HJ HLo HO
        by_cases hxb:cb=1
        · have Rb:Hid (IR w2 (.slice (some ⟨gb,ob,none⟩) 0 0) b):=UUb.out hxb
          subst hxb
          clear TTb UUb
          go_wp2
          go_quiet (fail)
          go_wp2;go_quiet (fail)
          go_wp2_with (at_builtin;go_must (refine push_I rfl _ _ 49 rfl Tryz.underlying49 w2.heap.size _ oo rfl (HP.out _ (by (repeat (first | exact Grown.refl _ | refine Grown.alloc ?_ _ | refine Grown.drew ?_ | refine Grown.drewN ?_ _ | refine Grown.quiet ?_ _ _)))).1 _ _ y rfl (by (first | (simp;done) | exact new_cell _ _ _ _ rfl)) HLL.out (HP.out _ (by (repeat (first | exact Grown.refl _ | refine Grown.alloc ?_ _ | refine Grown.drew ?_ | refine Grown.drewN ?_ _ | refine Grown.quiet ?_ _ _)))).2.1 ?_;intro v3 w3 hO3 hB3;have HE:Hid (OwnI w3 w2.heap.size v3 (oo++[y])∧Below w2.heap.size w2 w3):=⟨hO3,(HP.out _ (by (repeat (first | exact Grown.refl _ | refine Grown.alloc ?_ _ | refine Grown.drew ?_ | refine Grown.drewN ?_ _ | refine Grown.quiet ?_ _ _)))).2.2.trans hB3⟩;clear hO3 hB3))
          try go_wp2
          go_roundg (gk - 1)
          case measure=>have:=HF.out;simp at this;omega
          case rel=>exact ⟨_,_,oo++[y],HAa.out,Rb.out,HE.out.1,HE.out.2,HJ2.out,by have:=HF.out;simp at this ⊢;omega⟩
        · have Rb:Hid (IR w2 (.slice (some ⟨gb,ob+1,none⟩) (nb - 1) (cb - 1)) b):=TTb.out hxb
          have x1b:((1:Int) == (cb:Int))=false:=by simp;omega
          have x2b:¬ 1=cb:=by omega
          clear TTb UUb
          go_wp2
          go_quiet (fail)
          go_wp2;go_quiet (fail)
          go_wp2_with (at_builtin;go_must (refine push_I rfl _ _ 49 rfl Tryz.underlying49 w2.heap.size _ oo rfl (HP.out _ (by (repeat (first | exact Grown.refl _ | refine Grown.alloc ?_ _ | refine Grown.drew ?_ | refine Grown.drewN ?_ _ | refine Grown.quiet ?_ _ _)))).1 _ _ y rfl (by (first | (simp;done) | exact new_cell _ _ _ _ rfl)) HLL.out (HP.out _ (by (repeat (first | exact Grown.refl _ | refine Grown.alloc ?_ _ | refine Grown.drew ?_ | refine Grown.drewN ?_ _ | refine Grown.quiet ?_ _ _)))).2.1 ?_;intro v3 w3 hO3 hB3;have HE:Hid (OwnI w3 w2.heap.size v3 (oo++[y])∧Below w2.heap.size w2 w3):=⟨hO3,(HP.out _ (by (repeat (first | exact Grown.refl _ | refine Grown.alloc ?_ _ | refine Grown.drew ?_ | refine Grown.drewN ?_ _ | refine Grown.quiet ?_ _ _)))).2.2.trans hB3⟩;clear hO3 hB3))
          try go_wp2
          go_roundg (gk - 1)
          case measure=>have:=HF.out;simp at this;omega
          case rel=>exact ⟨_,_,oo++[y],HAa.out,Rb.out,HE.out.1,HE.out.2,HJ2.out,by have:=HF.out;simp at this ⊢;omega⟩
end Go.Proofs
