/-
  Several texts in one (Fb Ic Gb Ha Hb Hc He Id Je Ia Ib Ie Pg).
-/
import Derived.RangeFuncNested
import Derived.RangeFuncBound
import Derived.RangeFuncCalls
import Derived.RangeFuncLeaves
import Derived.Shelf.Abstract
import Derived.Shelf.RegionOpen
import Derived.WalkKit
import Derived.WalkSpells
import Derived.WalkLawsBesides
import Derived.OwnWalkIn
import Derived.TacticsInMore
import Derived.LoopNIn
import Derived.LoopIn
import Derived.BigQuiet
import Derived.RegionIn
import Derived.Deep.QuietTactic
import Derived.Deep.RegionWith
import Derived.Lib.OthersKept
import Derived.Maps.AppendAt
import Derived.Lib.SmallJoins
import Derived.Shelf.SlSortCmp.QuietGrown
import Derived.Test.YtibgnkpagfpinaaGreatDoorMgct
import Derived.Test.YtibgnkpagfpinaaGreatDoorRct
import Derived.Test.YtibgnkpagfpinaaGreatDoorJft
import Derived.Test.YtibgnkpagfpinaaGreatDoorWet
import Derived.Test.YtibgnkpagfpinaaGreatDoorMgat
import Derived.Test.YtibgnkpagfpinaaGreatDoorMgbt
import Derived.Deep.AppendLies
import Derived.Deep.RegionLaw
import Derived.Test.YtibgnkpagfpinaaGreatDoorWct
import Derived.Test.YtibgnkpagfpinaaGreatDoorMat
import Derived.Deep.DeepCutAuto
import Derived.Deep.CutBlock
namespace Go.Proofs
open Go.RowKit Go.Shelf
set_option maxRecDepth 100000
attribute [local go_sem] Oper.semAt_some
attribute [local go_sem ↓] Go.wp_at_zero Go.wp_at_succ
theorem run_start {rs:List Rl} (hO:∀ r∈rs,Ok r) (hn:rs.length≤256):Run rs (csI rs) ((bkI rs rs.length).map Pb.us) ((bkI rs rs.length).map Pb.r) (stK rs rs.length):=by
 refine ⟨okSt_start hO hn,fun i j hi hj _ => ?_,by rw [stK_all]⟩
 rw [csI_len] at hi
 rw [stK_all] at hj ⊢
 simp only at hj ⊢
 have h1:at0 (List.replicate rs.length 1) i=1:=by simp [at0,hi]
 have h2:wtAt (bkI rs rs.length) j=1:=by
  unfold wtAt
  rw [List.getElem?_eq_getElem hj]
  exact (bkI_mem (List.getElem_mem hj)).2.1
 omega
structure Fin (rs:List Rl) (st:St):Prop where
 n:rs.length≤256
 ok:∀ r∈rs,Ok r
 cp:∀ r∈rs,copB r=false
 run:Run rs (csI rs) ((bkI rs rs.length).map Pb.us) ((bkI rs rs.length).map Pb.r) st
 en:∀ i,i<rs.length→at0 st.aq i≤at0 st.ws i
theorem fstC_none:∀ {rs:List Rl} {k:Nat},fstC rs k=none→∀ r∈rs,copB r=false
 | [],_,_,r,h=>by cases h
 | q::l,k,h,r,hr=>by
  unfold fstC at h
  by_cases hq:copB q=true
  · rw [if_pos hq] at h;cases h
  · rw [if_neg hq] at h
    rcases List.mem_cons.1 hr with rfl | hr
    · simpa using hq
    · exact fstC_none h r hr
theorem wgh_chk {rs:List Rl} {st:St} {c:Int × Int} (h:wgh rs=(some st,c)):∀ r∈rs,chk r=0:=by
 unfold wgh at h
 by_cases h0:(allE rs).2≠0
 · rw [if_pos h0] at h;injection h with h1;cases h1
 · have h1:=Classical.not_not.1 h0
   unfold allE at h1
   by_cases hn:256<rs.length
   · rw [if_pos hn] at h1;cases h1
   · rw [if_neg hn] at h1
     exact fstR_ok h1
theorem wgh_fin {rs:List Rl} {st:St} {c:Int × Int} (h:wgh rs=(some st,c)):Fin rs st:=by
 have hok:=wgh_some h
 unfold wgh at h
 by_cases h0:(allE rs).2≠0
 · rw [if_pos h0] at h;injection h with h1;cases h1
 · rw [if_neg h0] at h
   cases hC:fstC rs 0 with
   | some n=>rw [hC] at h;injection h with h1;cases h1
   | none=>
    rw [hC] at h
    simp only at h
    obtain ⟨o,R,hR⟩:∃ o R,settleAll rs rs.length 0 (stK rs rs.length)=(o,R):=⟨_,_,rfl⟩
    rw [hR] at h
    cases o with
    | some n=>injection h with h1;cases h1
    | none=>
     injection h with h1 _
     injection h1 with h1
     subst h1
     have hs:=settleAll_sound (csI_len rs) rs.length 0 _ (by omega) (run_start hok.2 hok.1) (fun _ h=>by omega) R hR
     refine ⟨hok.1,hok.2,fstC_none hC,hs.1,fun i hi => ?_⟩
     exact (look_none (hs.2 (by omega)) i (Nat.zero_le _) (by omega)).2
theorem wgtK_mono {rs:List Rl} {ws:List Int} {u:Int} (k:Nat):wgtK rs ws u k≤wgtK rs ws u (k+1):=by
 rw [wgtK]
 split
 · rename_i h;omega
 · exact Int.le_refl _
theorem wgtK_one {rs:List Rl} {ws:List Int} {u:Int} : ∀ k,1≤wgtK rs ws u k
 | 0=>by simp [wgtK]
 | k+1=>Int.le_trans (wgtK_one k) (wgtK_mono k)
theorem wgtK_ge {rs:List Rl} {ws:List Int} {u:Int} : ∀ {n i:Nat},i<n→hasB (fstS rs i) u=true→at0 ws i≤wgtK rs ws u n
 | n+1,i,hi,h=>by
  by_cases e:i=n
  · subst e
    rw [wgtK]
    by_cases hc:wgtK rs ws u i<at0 ws i
    · rw [if_pos ⟨hc,h⟩];exact Int.le_refl _
    · rw [if_neg (fun x=>hc x.1)];omega
  · exact Int.le_trans (wgtK_ge (by omega) h) (wgtK_mono n)
theorem wgtK_is {rs:List Rl} {ws:List Int} {u:Int} : ∀ n,wgtK rs ws u n=1∨∃ i,i<n∧hasB (fstS rs i) u=true∧wgtK rs ws u n=at0 ws i
 | 0 => .inl rfl
 | n+1=>by
  rw [wgtK]
  by_cases hc:wgtK rs ws u n<at0 ws n∧hasB (fstS rs n) u=true
  · rw [if_pos hc];exact .inr ⟨n,by omega,hc.2,rfl⟩
  · rw [if_neg hc]
    rcases wgtK_is n with h | ⟨i,hi,h1,h2⟩
    · exact .inl h
    · exact .inr ⟨i,by omega,h1,h2⟩
theorem mayB_good {r:Rl} (hO:Ok r) {p:Pc} (hp:p∈backP r) (h2:p.k≠2):Good (mayB p):=by
 rcases pc_ok (hO.pc p (List.mem_of_mem_drop hp)) with ⟨h1,hw,_⟩ | ⟨h1,_⟩ | ⟨h1,_,_,_,hm⟩
 · unfold mayB
   rw [if_neg (by omega)]
   refine ⟨fun x hx => ?_,by simp⟩
   simp at hx
   subst hx
   rw [whole_iff]
   unfold wd at hw
   split at hw
   · omega
   · split at hw
     · omega
     · exact absurd rfl hw
 · exact absurd h1 h2
 · unfold mayB
   rw [if_pos h1]
   unfold matB at hm
   simp only [Bool.and_eq_true] at hm
   exact ((validB_iff _).1 hm.1).2
theorem pbs_mem2 {n:Nat} : ∀ {l:List Pc} {b:Pb},b∈pbs n l→∃ p∈l,p.k≠2∧b.us=mayB p
 | [],b,h=>by simp [pbs] at h
 | p::l,b,h=>by
  simp only [pbs] at h
  split at h
  · obtain ⟨q,h1,h2⟩:=pbs_mem2 h
    exact ⟨q,List.mem_cons_of_mem _ h1,h2⟩
  · rename_i h2
    rcases List.mem_cons.1 h with rfl | h
    · exact ⟨p,List.mem_cons_self,h2,rfl⟩
    · obtain ⟨q,h1,h2⟩:=pbs_mem2 h
      exact ⟨q,List.mem_cons_of_mem _ h1,h2⟩
theorem bkI_good {rs:List Rl} (hO:∀ r∈rs,Ok r):∀ {k:Nat} {b:Pb},b∈bkI rs k→Good b.us
 | 0,b,h=>by simp [bkI] at h
 | k+1,b,h=>by
  rw [bkI] at h
  rcases List.mem_append.1 h with h | h
  · exact bkI_good hO h
  · obtain ⟨p,h1,h2,h3⟩:=pbs_mem2 h
    cases hk:rs[k]? with
    | none=>rw [hk] at h1;simp at h1
    | some r=>
     rw [hk] at h1
     rw [h3]
     exact mayB_good (hO r (List.mem_of_getElem? hk)) (by simpa using h1) h2
theorem key_good {rs:List Rl} (hO:∀ r∈rs,Ok r) {i:Nat} (hi:i<rs.length):Good (fstS rs i):=by
 have h:=hO _ (List.getElem_mem hi)
 have h0:=h.k0
 have:=List.all_eq_true.1 h.kS _ (List.getElem_mem h0)
 unfold okS at this
 simp only [Bool.and_eq_true] at this
 rw [fstS_at hi,show keyAt rs[i].key 0=rs[i].key[0] by simp [keyAt,h0]]
 exact ((validB_iff _).1 this.1).2
theorem Fin.us_good {rs:List Rl} {st:St} (h:Fin rs st) {j:Nat} (hj:j<st.bk.length):Good (usAt st.bk j):=by
 have hu:=h.run.ok.uss
 have hl:st.bk.length=(bkI rs rs.length).length:=by simpa using congrArg List.length hu
 rw [usAt_eq hu]
 simp only [List.getElem?_map]
 rw [List.getElem?_eq_getElem (by omega)]
 exact bkI_good h.ok (List.getElem_mem _)
def gs (g:List (Int × Int)→Int):List Pb→Nat→Int
 | [],_=>0
 | b::l,n=>(if b.r=n then g b.us else 0)+gs g l n
theorem gs_append (g:List (Int × Int)→Int) (l k:List Pb) (n:Nat):gs g (l++k) n=gs g l n+gs g k n:=by
 induction l with
 | nil=>simp [gs]
 | cons b l ih=>simp only [List.cons_append,gs,ih];omega
theorem gs_le {g:List (Int × Int)→Int} : ∀ {l:List Pb},(∀ b∈l,g b.us≤b.wt)→∀ n,gs g l n≤wsum l n
 | [],_,n=>by simp [gs,wsum]
 | b::l,h,n=>by
  have h1:=gs_le (fun x hx=>h x (List.mem_cons_of_mem _ hx)) n
  have h2:=h b List.mem_cons_self
  simp only [gs,wsum]
  split <;> omega
theorem gs_same {g:List (Int × Int)→Int} : ∀ {l k:List Pb},l.map Pb.r=k.map Pb.r→l.map Pb.us=k.map Pb.us→∀ n,gs g l n=gs g k n
 | [],[],_,_,n=>rfl
 | [],_::_,h,_,n=>by simp at h
 | _::_,[],h,_,n=>by simp at h
 | b::l,c::k,h1,h2,n=>by
  simp only [List.map_cons,List.cons.injEq] at h1 h2
  simp only [gs,h1.1,h2.1,gs_same h1.2 h2.2 n]
theorem gs_pbs (g:List (Int × Int)→Int) (n i:Nat) (h:n≠i):∀ l:List Pc,gs g (pbs n l) i=0
 | []=>rfl
 | p::l=>by
  simp only [pbs]
  split
  · exact gs_pbs g n i h l
  · simp only [gs,gs_pbs g n i h l]
    rw [if_neg h]
    omega
theorem gs_bkI (g:List (Int × Int)→Int) (rs:List Rl) (i:Nat):∀ k,gs g (bkI rs k) i=if i<k then gs g (pbs i ((rs[i]?.map backP).getD [])) i else 0
 | 0=>by simp [bkI,gs]
 | k+1=>by
  rw [bkI,gs_append,gs_bkI g rs i k]
  by_cases h1:i<k
  · rw [if_pos h1,gs_pbs g k i (by omega),if_pos (by omega)];omega
  · rw [if_neg h1]
    by_cases h2:k=i
    · subst h2;rw [if_pos (by omega)];omega
    · rw [gs_pbs g k i h2,if_neg (by omega)];omega
def copN:List Pc→Int
 | []=>0
 | p::l=>(if p.k=2 then 1 else 0)+copN l
theorem pbs_cop (n:Nat):∀ l:List Pc,((pbs n l).length:Int)+copN l=l.length
 | []=>rfl
 | p::l=>by
  have ih:=pbs_cop n l
  simp only [pbs,copN]
  split
  · simp only [List.length_cons];omega
  · simp only [List.length_cons];omega
theorem csI_val {rs:List Rl} {i:Nat} (hi:i<rs.length):at0 (csI rs) i=2 - (rs[i].key.length:Int)+copN (backP rs[i]):=by
 rw [csI_at hi,wsum_bkI,if_pos hi,stK_all,List.getElem?_eq_getElem hi]
 have h4:at0 (rs.map askI) i=askI rs[i]:=by simp [at0,hi]
 have h5:=pbs_cop i (backP rs[i])
 simp only [Option.map_some,Option.getD_some]
 rw [h4]
 unfold askI
 omega
theorem nth_lt:∀ (l:List (Int × Int)) (n:Int),(∀ x∈l,Whole x)→0≤n→n<tot l→∃ v,nthL l n=some v∧hasU l v
 | [],n,_,h0,h1=>by simp [tot] at h1;omega
 | x::r,n,hw,h0,h1=>by
  rw [tot_cons] at h1
  unfold nthL
  by_cases h:n<x.2 - x.1+1
  · rw [if_pos h]
    exact ⟨_,rfl,(hasU_cons _ _ _).2 (.inl ⟨by omega,by omega⟩)⟩
  · rw [if_neg h]
    obtain ⟨v,h2,h3⟩:=nth_lt r (n - (x.2 - x.1+1)) (fun y hy=>hw y (List.mem_cons_of_mem _ hy)) (by omega) (by omega)
    exact ⟨v,h2,(hasU_cons _ _ _).2 (.inr h3)⟩
theorem place_lt {l:List (Int × Int)} (h:Good l) {u:Int} (hu:hasU l u):placeU l u<tot l:=by
 have h1:=(nth_place h hu).1
 by_cases e:tot l≤placeU l u
 · rw [nth_over l _ h.1 e] at h1
   cases h1
 · omega
structure Paired (f t:List (Int × Int)):Prop where
 vf:validB f=true
 vt:validB t=true
 p:0<lenU f
 e:lenU f=lenU t
theorem part_some {f t:List (Int × Int)} (h:Paired f t) {u:Int} (hu:hasU f u):nthL t (placeU f u)=some (partU f t u)∧hasU t (partU f t u):=by
 have hf:=(validB_iff f).1 h.vf
 have ht:=(validB_iff t).1 h.vt
 have hp:=(nth_place hf.2 hu).2
 have h1:=place_lt hf.2 hu
 have e:=h.e
 unfold lenU at e
 rw [if_pos h.vf,if_pos h.vt] at e
 obtain ⟨v,h2,h3⟩:=nth_lt t (placeU f u) ht.2.1 hp (by omega)
 have hh:hasB f u=true:=by simp [hasB,h.vf,hu]
 have:partU f t u=v:=by
  unfold partU
  rw [if_pos hh]
  unfold nthU
  rw [if_neg (by simp [h.vt];omega),h2]
  rfl
 rw [this]
 exact ⟨h2,h3⟩
theorem wd_unit {u:Int} (h:isU u):wd u≠0:=by
 unfold isU at h
 by_cases h1:(0≤u∧u≤127)∨(1114240≤u∧u≤1114367)
 · rw [wd_1 h1];decide
 · by_cases h2:128≤u∧u≤2047
   · rw [wd_2 h2];decide
   · by_cases h3:2048≤u∧u≤65535
     · rw [wd_3 (by omega)];decide
     · rw [wd_4 (by omega)];decide
theorem hasB_unit {l:List (Int × Int)} {u:Int} (h:hasB l u=true):wd u≠0:=by
 simp only [hasB,Bool.and_eq_true,decide_eq_true_eq] at h
 exact wd_unit (good_units ((validB_iff l).1 h.1).2 h.2)
theorem st_at {ls:List (List (Int × Int))} {us:List Int} (h:stB ls us=true) {j:Nat} (h1:j<ls.length) (h2:j<us.length):hasB ls[j] us[j]=true:=by
 simp only [stB,Bool.and_eq_true,decide_eq_true_eq] at h
 have:=List.all_eq_true.1 h.2 (ls[j],us[j]) (by
  rw [List.mem_iff_getElem]
  exact ⟨j,by rw [List.length_zip];omega,List.getElem_zip⟩)
 exact this
structure Wr (key:List (List (Int × Int))) (us:List Int) (p:Pc) (u:Int):Prop where
 w:wd u≠0
 k:p.k=1∨p.k=2∨p.k=3
 k1:p.k=1→u=p.u
 k2:p.k=2→∃ (j:Nat) (hj:j<us.length),p.y=j∧us[j]=u
 k3:p.k=3→hasB p.tl u=true
theorem wr_any {r:Rl} {us:List Int} (h:layB r us=true) {p:Pc} (hp:p∈r.res):Wr r.key us p (wrt r.key us p):=by
 simp only [layB,Bool.and_eq_true,decide_eq_true_eq] at h
 have hok:=chk_ok h.1
 have hl:=st_len h.2
 rcases pc_ok (hok.pc p hp) with ⟨h1,h2,_,_⟩ | ⟨h1,_,_,h4,h5⟩ | ⟨h1,_,h3,h4,h5⟩
 · have e:wrt r.key us p=p.u:=by unfold wrt;rw [if_neg (by omega),if_neg (by omega)]
   rw [e]
   exact ⟨h2,.inl h1,fun _=>rfl,fun k=>by omega,fun k=>by omega⟩
 · obtain ⟨j,hj⟩:∃ j:Nat,p.y=(j:Int):=⟨p.y.toNat,by omega⟩
   have hjk:j<r.key.length:=by omega
   have hju:j<us.length:=by omega
   have e:wrt r.key us p=us[j]:=by
    unfold wrt
    rw [if_neg (by omega),if_pos h1,hj]
    simp [unitAt,hju]
   rw [e]
   exact ⟨hasB_unit (st_at h.2 hjk hju),.inr (.inl h1),fun k=>by omega,fun _=>⟨j,hju,hj,rfl⟩,fun k=>by omega⟩
 · obtain ⟨j,hj⟩:∃ j:Nat,p.y=(j:Int):=⟨p.y.toNat,by omega⟩
   have hjk:j<r.key.length:=by omega
   have hju:j<us.length:=by omega
   have e1:keyAt r.key (j:Int)=r.key[j]:=by simp [keyAt,hjk]
   have e2:unitAt us (j:Int)=us[j]:=by simp [unitAt,hju]
   have e:wrt r.key us p=partU r.key[j] p.tl us[j]:=by
    unfold wrt
    rw [if_pos h1,hj,e1,e2]
   rw [hj,e1] at h5
   simp only [matB,Bool.and_eq_true,decide_eq_true_eq] at h5
   have hS:=List.all_eq_true.1 hok.kS r.key[j] (List.getElem_mem hjk)
   have hS2:=hS
   simp only [okS,Bool.and_eq_true] at hS2
   have hP:Paired r.key[j] p.tl:=⟨hS2.1,h5.1,lenU_ok hS,h5.2⟩
   have hh:=st_at h.2 hjk hju
   have hh2:=hh
   simp only [hasB,Bool.and_eq_true,decide_eq_true_eq] at hh2
   have hq:=(part_some hP hh2.2).2
   have hb:hasB p.tl (partU r.key[j] p.tl us[j])=true:=by simp [hasB,h5.1,hq]
   rw [e]
   exact ⟨hasB_unit hb,.inr (.inr h1),fun k=>by omega,fun k=>by omega,fun _=>hb⟩
def bAt (l:List Int) (i:Nat):Int:=l[i]?.getD 0
theorem Hid.mk' {p:Prop} (h:p):Hid p:=h
theorem OwnI.sl {w:World} {base:Nat} {v:Value} {l:List Int} (h:OwnI w base v l):∃ a c,v = .slice a l.length c:=by
 obtain ⟨a,c,e,_⟩:=h.ir
 exact ⟨a,c,e⟩
theorem ir_take {w:World} {g o N c n:Nat} {l:List Int} (h:IR w (.slice (some ⟨g,o,none⟩) N c) l) (hn:n≤N):IR w (.slice (some ⟨g,o,none⟩) n c) (l.take n):=by
 obtain ⟨A,c',e,hc,hr⟩:=h
 injection e with e1 e2 e3
 subst e3
 have ht:(l.take n).length=n:=by rw [List.length_take];omega
 refine ⟨_,c,by rw [ht],by omega,?_⟩
 rcases hr with rfl | ⟨g',o',h1,hr⟩
 · exact .inl (by simp)
 · rw [←e1] at h1
   injection h1 with h1
   injection h1 with h1 h2
   subst h1 h2
   exact .inr ⟨g,o,rfl,fun j hj=>by rw [List.getElem_take];exact hr j (by omega)⟩
theorem new_cell (W:World) (b:Nat) (x:Value) (t:TypeId) (h:W.heap.size=b):(W.alloc (.cells #[x] t)).cell? ⟨b,0,none⟩=some x:=by
 subst h
 simp
def wK (rs:List Rl) (st:St) (u:Int):Int:=wgtK rs st.ws u rs.length
theorem Fin.unit_leK {rs:List Rl} {st:St} (h:Fin rs st) {j:Nat} (hj:j<st.bk.length) {u:Int} (hu:hasU (usAt st.bk j) u):wK rs st u≤wtAt st.bk j:=by
 have hpos:1≤wtAt st.bk j:=by
  unfold wtAt
  rw [List.getElem?_eq_getElem hj]
  exact (h.run.ok.pb _ (List.getElem_mem hj)).2.1
 unfold wK
 rcases wgtK_is (rs:=rs) (ws:=st.ws) (u:=u) rs.length with e | ⟨i,hi,h1,e⟩
 · omega
 · rw [e]
   have h2:hasU (fstS rs i) u:=by
    unfold hasB at h1
    simp only [Bool.and_eq_true,decide_eq_true_eq] at h1
    exact h1.2
   exact h.run.sn i j (by rw [csI_len];exact hi) hj (touch_of _ _ u (key_good h.ok hi) (h.us_good hj) h2 hu)
theorem Fin.ws_in {rs:List Rl} {st:St} (h:Fin rs st) {i:Nat} (hi:i<rs.length):1≤at0 st.ws i∧at0 st.ws i≤64:=h.run.ok.wb i (by rw [csI_len];exact hi)
theorem Fin.wK_in {rs:List Rl} {st:St} (h:Fin rs st) (u:Int):1≤wK rs st u∧wK rs st u≤64:=by
 refine ⟨wgtK_one _,?_⟩
 unfold wK
 rcases wgtK_is (rs:=rs) (ws:=st.ws) (u:=u) rs.length with e | ⟨i,hi,_,e⟩
 · omega
 · rw [e];exact (h.ws_in hi).2
theorem Fin.wK_ge {rs:List Rl} {st:St} {i:Nat} (hi:i<rs.length) {u:Int} (hu:hasB (fstS rs i) u=true):at0 st.ws i≤wK rs st u:=wgtK_ge hi hu
theorem Fin.gen {rs:List Rl} {st:St} (h:Fin rs st) (g:List (Int × Int)→Int) (hg:∀ j,j<st.bk.length→g (usAt st.bk j)≤wtAt st.bk j) {i:Nat} (hi:i<rs.length) :
 2 - (rs[i].key.length:Int)+copN (backP rs[i])+gs g (pbs i (backP rs[i])) i≤at0 st.ws i:=by
 have h2:gs g (pbs i (backP rs[i])) i=gs g st.bk i:=by
  rw [gs_same h.run.rk h.run.ok.uss,gs_bkI,if_pos hi,List.getElem?_eq_getElem hi]
  rfl
 have h3:gs g st.bk i≤wsum st.bk i:=gs_le (fun b hb=>by
  obtain ⟨j,hj,rfl⟩:=List.getElem_of_mem hb
  have:=hg j hj
  rw [usAt_at hj] at this
  unfold wtAt at this
  rw [List.getElem?_eq_getElem hj] at this
  exact this) i
 have h4:=h.run.ok.asum i (by rw [csI_len];exact hi)
 rw [csI_val hi] at h4
 have h5:=h.en i hi
 omega
theorem bAt_set {l:List Int} {i j:Nat} {x:Int} (h:i<l.length):bAt (l.set i x) j=if j=i then x else bAt l j:=at0_set h
def wS (rs:List Rl) (st:St):List Int→Int
 | []=>0
 | u::l=>wK rs st u+wS rs st l
theorem wS_append (rs:List Rl) (st:St) (l k:List Int):wS rs st (l++k)=wS rs st l+wS rs st k:=by
 induction l with
 | nil=>simp [wS]
 | cons u l ih=>simp only [List.cons_append,wS,ih];omega
open Classical in
noncomputable def gmx (rs:List Rl) (st:St) (P:Int→Prop):Nat→Int
 | 0=>0
 | n+1=>if ∃ u,P u∧wK rs st u=((n+1:Nat):Int) then ((n+1:Nat):Int) else gmx rs st P n
theorem gmx_ge {rs:List Rl} {st:St} {P:Int→Prop} {u:Int} (hu:P u):∀ n:Nat,wK rs st u≤n→1≤wK rs st u→wK rs st u≤gmx rs st P n
 | 0,h,h1=>by omega
 | n+1,h,h1=>by
  rw [gmx]
  split
  · exact h
  · rename_i hn
    refine gmx_ge hu n ?_ h1
    by_cases e:wK rs st u=((n+1:Nat):Int)
    · exact absurd ⟨u,hu,e⟩ hn
    · omega
theorem gmx_is {rs:List Rl} {st:St} {P:Int→Prop} : ∀ n:Nat,gmx rs st P n=0∨∃ u,P u∧wK rs st u=gmx rs st P n
 | 0 => .inl rfl
 | n+1=>by
  rw [gmx]
  split
  · rename_i h
    obtain ⟨u,h1,h2⟩:=h
    exact .inr ⟨u,h1,h2⟩
  · exact gmx_is n
noncomputable def gG (rs:List Rl) (st:St) (s:List (Int × Int)):Int:=gmx rs st (hasU s) 64
theorem gG_ge {rs:List Rl} {st:St} (h:Fin rs st) {s:List (Int × Int)} {u:Int} (hu:hasU s u):wK rs st u≤gG rs st s:=gmx_ge hu 64 (h.wK_in u).2 (h.wK_in u).1
theorem gG_le {rs:List Rl} {st:St} (h:Fin rs st) {j:Nat} (hj:j<st.bk.length):gG rs st (usAt st.bk j)≤wtAt st.bk j:=by
 have hpos:1≤wtAt st.bk j:=by
  unfold wtAt
  rw [List.getElem?_eq_getElem hj]
  exact (h.run.ok.pb _ (List.getElem_mem hj)).2.1
 rcases gmx_is (rs:=rs) (st:=st) (P:=hasU (usAt st.bk j)) 64 with e | ⟨u,h1,h2⟩
 · unfold gG;omega
 · unfold gG
   rw [←h2]
   exact h.unit_leK hj h1
def cys:List Pc→List Nat
 | []=>[]
 | p::l=>if p.k=2 then p.y.toNat::cys l else cys l
theorem cys_len (l:List Pc):((cys l).length:Int)=copN l:=by
 induction l with
 | nil=>rfl
 | cons p l ih=>
  simp only [cys,copN]
  split
  · simp only [List.length_cons];omega
  · omega
theorem cys_mem:∀ {l:List Pc} {y:Nat},y∈cys l→∃ p∈l,p.k=2∧p.y.toNat=y
 | p::l,y,h=>by
  simp only [cys] at h
  split at h
  · rename_i hk
    rcases List.mem_cons.1 h with rfl | h
    · exact ⟨p,List.mem_cons_self,hk,rfl⟩
    · obtain ⟨q,h1,h2⟩:=cys_mem h
      exact ⟨q,List.mem_cons_of_mem _ h1,h2⟩
  · obtain ⟨q,h1,h2⟩:=cys_mem h
    exact ⟨q,List.mem_cons_of_mem _ h1,h2⟩
theorem cpW_no:∀ (l:List Pc) (c:List Bool),c.length=8→(∀ p∈l,p.k=2→p.y.toNat<8)→cpW c l=false→(cys l).Nodup∧∀ y∈cys l,(c[y]?).getD false=false
 | [],c,_,_,_=>⟨List.nodup_nil,by simp [cys]⟩
 | p::l,c,hc,h8,h=>by
  rw [cpW] at h
  rw [cys]
  by_cases hk:p.k=2
  · rw [if_neg (by omega)] at h
    rw [if_pos hk]
    have hy8:=h8 p List.mem_cons_self hk
    by_cases hy:(c[p.y.toNat]?).getD false=true
    · rw [if_pos hy] at h;cases h
    · rw [if_neg hy] at h
      obtain ⟨h1,h2⟩:=cpW_no l (c.set p.y.toNat true) (by simp [hc]) (fun q hq=>h8 q (List.mem_cons_of_mem _ hq)) h
      have hne:∀ z∈cys l,z≠p.y.toNat∧(c[z]?).getD false=false:=fun z hz=>by
       have:=h2 z hz
       rw [List.getElem?_set] at this
       by_cases e:p.y.toNat=z
       · rw [if_pos e,if_pos (by omega)] at this
         simp at this
       · rw [if_neg e] at this
         exact ⟨fun e2=>e e2.symm,this⟩
      refine ⟨List.nodup_cons.2 ⟨fun hm=>(hne _ hm).1 rfl,h1⟩,fun y hy' => ?_⟩
      rcases List.mem_cons.1 hy' with rfl | hy'
      · simpa using hy
      · exact (hne y hy').2
  · rw [if_pos hk] at h
    rw [if_neg hk]
    exact cpW_no l c hc (fun q hq=>h8 q (List.mem_cons_of_mem _ hq)) h
def sF (F:Nat→Int):List Nat→Int
 | []=>0
 | y::l=>F y+sF F l
def sR (F:Nat→Int):Nat→Int
 | 0=>0
 | n+1=>sR F n+F n
theorem sF_same {F G:Nat→Int} : ∀ (l:List Nat),(∀ y∈l,F y=G y)→sF F l=sF G l
 | [],_=>rfl
 | y::l,h=>by
  rw [sF,sF,h y List.mem_cons_self,sF_same l fun z hz=>h z (List.mem_cons_of_mem _ hz)]
theorem sR_nonneg {F:Nat→Int} (h:∀ j,0≤F j):∀ n,0≤sR F n
 | 0=>Int.le_refl _
 | n+1=>by have:=sR_nonneg h n;have:=h n;rw [sR];omega
theorem sR_without (F:Nat→Int) (y:Nat):∀ n,sR (fun j=>if j=y then 0 else F j) n=sR F n - if y<n then F y else 0
 | 0=>by simp [sR]
 | n+1=>by
  rw [sR,sR,sR_without F y n]
  by_cases e:n=y
  · subst e
    rw [if_pos rfl,if_neg (by omega),if_pos (by omega)]
    omega
  · rw [if_neg e]
    by_cases h:y<n
    · rw [if_pos h,if_pos (by omega)];omega
    · rw [if_neg h,if_neg (by omega)];omega
theorem nodup_sum {n:Nat} : ∀ (l:List Nat) (F:Nat→Int),(∀ j,0≤F j)→l.Nodup→(∀ y∈l,y<n)→sF F l≤sR F n
 | [],F,h,_,_=>sR_nonneg h n
 | y::l,F,h,hn,hy=>by
  have hn2:=List.nodup_cons.1 hn
  have ih:=nodup_sum l (fun j=>if j=y then 0 else F j) (fun j=>by by_cases e:j=y <;> simp [e,h]) hn2.2 (fun z hz=>hy z (List.mem_cons_of_mem _ hz))
  rw [sR_without,if_pos (hy y List.mem_cons_self)] at ih
  rw [sF,sF_same l (G:=fun j=>if j=y then 0 else F j) fun z hz=>by
   have:z≠y:=fun e=>hn2.1 (e ▸ hz)
   simp [this]]
  omega
theorem sR_shift (F:Nat→Int):∀ n,sR F (n+1)=F 0+sR (fun j=>F (j+1)) n
 | 0=>by simp [sR]
 | n+1=>by rw [sR,sR_shift F n,sR];omega
theorem wS_sR (rs:List Rl) (st:St):∀ us:List Int,wS rs st us=sR (fun j=>wK rs st (us[j]?.getD 0)) us.length
 | []=>rfl
 | u::us=>by
  rw [List.length_cons,sR_shift,wS,wS_sR rs st us]
  simp
theorem sR_minus (F:Nat→Int):∀ n,sR (fun j=>if j=0 then 0 else F j - 1) (n+1)=sR F (n+1) - F 0 - n
 | 0=>by simp [sR]
 | n+1=>by
  have e:sR F (n+1+1)=sR F (n+1)+F (n+1):=rfl
  rw [sR,sR_minus F n,if_neg (by omega),e]
  omega
theorem back_sum {rs:List Rl} {st:St} (n:Nat) (us:List Int) (f:Pc→Int) (G:List (Int × Int)→Int):∀ l:List Pc,(∀ p∈l,(p.k≠2→wK rs st (f p)≤G (mayB p))∧(p.k=2→f p=us[p.y.toNat]?.getD 0))→wS rs st (l.map f)≤gs G (pbs n l) n+sF (fun j=>wK rs st (us[j]?.getD 0)) (cys l)
 | [],_=>by simp [wS,pbs,gs,cys,sF]
 | p::l,h=>by
  have ih:=back_sum n us f G l fun q hq=>h q (List.mem_cons_of_mem _ hq)
  have hp:=h p List.mem_cons_self
  rw [List.map_cons,wS]
  simp only [pbs,cys]
  by_cases hk:p.k=2
  · rw [if_pos hk,if_pos hk,sF,hp.2 hk]
    omega
  · rw [if_neg hk,if_neg hk]
    have:=hp.1 hk
    simp only [gs,if_pos]
    omega
theorem sF_minus (F:Nat→Int):∀ l:List Nat,(∀ y∈l,y≠0)→sF (fun j=>if j=0 then 0 else F j - 1) l=sF F l - l.length
 | [],_=>by simp [sF]
 | y::l,h=>by
  rw [sF,sF,sF_minus F l fun z hz=>h z (List.mem_cons_of_mem _ hz),if_neg (h y List.mem_cons_self),List.length_cons]
  omega
theorem Fin.light {rs:List Rl} {st:St} (h:Fin rs st) {i:Nat} (hi:i<rs.length) {us:List Int} (hl:layB rs[i] us=true):wS rs st ((backP rs[i]).map (wrt rs[i].key us))+1≤wS rs st us:=by
 have hO:=h.ok _ (List.getElem_mem hi)
 have hst:stB rs[i].key us=true:=by simp only [layB,Bool.and_eq_true] at hl;exact hl.2
 have hlen:=st_len hst
 have hk0:=hO.k0
 have hw:=fun p (hp:p∈backP rs[i])=>wr_any hl (List.mem_of_mem_drop hp)
 have h1:=back_sum (rs:=rs) (st:=st) i us (wrt rs[i].key us) (gG rs st) (backP rs[i]) fun p hp=>by
  have w:=hw p hp
  refine ⟨fun h2=>gG_ge h ?_,fun h2 => ?_⟩
  · rcases w.k with k | k | k
    · rw [w.k1 k,mayB,if_neg (by omega)]
      exact ⟨(p.u,p.u),by simp,Int.le_refl _,Int.le_refl _⟩
    · exact absurd k h2
    · rw [mayB,if_pos k]
      have:=w.k3 k
      simp only [hasB,Bool.and_eq_true,decide_eq_true_eq] at this
      exact this.2
  · obtain ⟨j,hj,h3,h4⟩:=w.k2 h2
    rw [h3,←h4]
    simp [hj]
 have h2:=h.gen (gG rs st) (fun j hj=>gG_le h hj) hi
 have hcp:=h.cp _ (List.getElem_mem hi)
 have hy:∀ p∈backP rs[i],p.k=2→p.y.toNat<us.length:=fun p hp k=>by
  obtain ⟨j,hj,h3,_⟩:=(hw p hp).k2 k
  omega
 have hn:=cpW_no (backP rs[i]) _ (by simp) (fun p hp k=>by have:=hy p hp k;have:=hO.k8;omega) hcp
 have hne:∀ y∈cys (backP rs[i]),y≠0:=fun y hy e=>by
  have:=hn.2 y hy
  subst e
  simp at this
 have hlt:∀ y∈cys (backP rs[i]),y<us.length:=fun y hy'=>by
  obtain ⟨p,hp,k,e⟩:=cys_mem hy'
  rw [←e]
  exact hy p hp k
 have h3:=nodup_sum (n:=us.length) (cys (backP rs[i])) (fun j=>if j=0 then 0 else wK rs st (us[j]?.getD 0) - 1) (fun j=>by
  have:=(h.wK_in (us[j]?.getD 0)).1
  by_cases e:j=0
  · simp [e]
  · simp only [e,if_false];omega) hn.1 hlt
 rw [sF_minus _ _ hne,cys_len] at h3
 obtain ⟨n,hn'⟩:∃ n,us.length=n+1:=⟨us.length - 1,by omega⟩
 rw [hn',sR_minus (fun j=>wK rs st (us[j]?.getD 0)) n,←hn',←wS_sR] at h3
 have h4:at0 st.ws i≤wK rs st (us[0]?.getD 0):=by
  refine Fin.wK_ge hi ?_
  have:=st_at hst hk0 (by omega)
  rw [fstS_at hi,show keyAt rs[i].key 0=rs[i].key[0] by simp [keyAt,hk0]]
  rw [List.getElem?_eq_getElem (by omega)]
  exact this
 omega
def stF (r:Rl) (d l:List Int):Bool:=
 if l.length<r.key.length+r.post.length∨d.length<r.ante.length then false
 else if (r.bg=true∧r.ante.length<d.length)∨(r.en=true∧r.key.length+r.post.length<l.length) then false
 else (stB r.key (l.take r.key.length) && stB r.post ((l.drop r.key.length).take r.post.length)) && stB r.ante (d.drop (d.length - r.ante.length))
theorem stF_key {r:Rl} {d l:List Int} (h:stF r d l=true):r.key.length≤l.length∧stB r.key (l.take r.key.length)=true:=by
 unfold stF at h
 split at h
 · cases h
 · rename_i h1
   split at h
   · cases h
   · simp only [Bool.and_eq_true] at h
     exact ⟨by omega,h.1.1⟩
def kl (rs:List Rl) (i:Int):Nat:=((rs[i.toNat]?).map fun r=>r.key.length).getD 0
def nxtK (rs:List Rl) (d l:List Int):Nat→Int
 | 0 => -1
 | k+1=>if ((rs[k]?).map fun r=>stF r d l).getD false=true∧(nxtK rs d l k<0∨kl rs (nxtK rs d l k)<kl rs k) then (k:Int) else nxtK rs d l k
theorem nxtK_is (rs:List Rl) (d l:List Int):∀ k,k≤rs.length→nxtK rs d l k = -1∨∃ i:Nat,∃ hi:i<rs.length,i<k∧nxtK rs d l k=i∧stF rs[i] d l=true
 | 0,_ => .inl rfl
 | k+1,hk=>by
  rw [nxtK]
  split
  · rename_i h
    refine .inr ⟨k,by omega,by omega,rfl,?_⟩
    have:=h.1
    rw [List.getElem?_eq_getElem (by omega)] at this
    simpa using this
  · rcases nxtK_is rs d l k (by omega) with h | ⟨i,hi,h1,h2⟩
    · exact .inl h
    · exact .inr ⟨i,hi,by omega,h2⟩
structure Stp where
 (r d l t a b:Int)
def stepL (rs:List Rl) (l:List Int) (x:Stp):List Int:=
 if x.r<0 then l.drop 1 else match rs[x.r.toNat]? with
 | none=>[]
 | some r=>(backP r).map (wrt r.key (l.take x.t.toNat))++l.drop x.t.toNat
def OkStp (rs:List Rl) (l:List Int) (x:Stp):Prop:=
 (x.r = -1∧x.t=1∧x.a=1∧0<l.length)∨∃ (i:Nat) (hi:i<rs.length),x.r=i∧x.t=rs[i].key.length∧rs[i].key.length≤l.length∧layB rs[i] (l.take rs[i].key.length)=true∧x.a=rs[i].cu
def AllU (l:List Int):Prop:=∀ u∈l,wd u≠0
theorem AllU.append {l k:List Int} (h:AllU l) (h2:AllU k):AllU (l++k):=fun u hu=>(List.mem_append.1 hu).elim (h u) (h2 u)
theorem stepL_rule {rs:List Rl} {l:List Int} {x:Stp} {i:Nat} (hi:i<rs.length) (h1:x.r=i) (h2:x.t=rs[i].key.length):stepL rs l x=(backP rs[i]).map (wrt rs[i].key (l.take rs[i].key.length))++l.drop rs[i].key.length:=by
 unfold stepL
 rw [if_neg (by omega),h1,h2]
 simp [hi]
theorem back_units {r:Rl} {us:List Int} (hl:layB r us=true):AllU ((backP r).map (wrt r.key us)):=fun u hu=>by
 obtain ⟨p,hp,rfl⟩:=List.mem_map.1 hu
 exact (wr_any hl (List.mem_of_mem_drop hp)).w
theorem OkStp.light {rs:List Rl} {st:St} (h:Fin rs st) {l:List Int} {x:Stp} (hx:OkStp rs l x):wS rs st (stepL rs l x)+1≤wS rs st l:=by
 rcases hx with ⟨h1,h2,h3,h4⟩ | ⟨i,hi,h1,h2,h3,h4,h5⟩
 · unfold stepL
   rw [if_pos (by omega)]
   match l,h4 with
   | u::l,_=>
    rw [List.drop_one,List.tail_cons,wS]
    have:=(h.wK_in u).1
    omega
 · rw [stepL_rule hi h1 h2,wS_append]
   have:=h.light hi h4
   have e:wS rs st l=wS rs st (l.take rs[i].key.length)+wS rs st (l.drop rs[i].key.length):=by rw [←wS_append,List.take_append_drop]
   omega
theorem OkStp.units {rs:List Rl} {l:List Int} {x:Stp} (hx:OkStp rs l x) (hu:AllU l):AllU (stepL rs l x):=by
 rcases hx with ⟨h1,h2,h3,h4⟩ | ⟨i,hi,h1,h2,h3,h4,h5⟩
 · unfold stepL
   rw [if_pos (by omega)]
   exact fun u h=>hu u (List.mem_of_mem_drop h)
 · rw [stepL_rule hi h1 h2]
   exact (back_units h4).append fun u h=>hu u (List.mem_of_mem_drop h)
def lft (rs:List Rl) (l:List Int) (xs:List Stp):List Int:=xs.foldl (stepL rs) l
theorem lft_snoc (rs:List Rl) (l:List Int) (xs:List Stp) (x:Stp):lft rs l (xs++[x])=stepL rs (lft rs l xs) x:=by simp [lft]
def GoOk (rs:List Rl) (l:List Int) (xs:List Stp):Prop:=∀ (i:Nat) (h:i<xs.length),OkStp rs (lft rs l (xs.take i)) xs[i]
theorem GoOk.nil (rs:List Rl) (l:List Int):GoOk rs l []:=fun i h=>by simp at h
theorem GoOk.snoc {rs:List Rl} {l:List Int} {xs:List Stp} {x:Stp} (h:GoOk rs l xs) (hx:OkStp rs (lft rs l xs) x):GoOk rs l (xs++[x]):=fun i hi=>by
 by_cases e:i<xs.length
 · have:=h i e
   rw [List.take_append_of_le_length (by omega),List.getElem_append_left e]
   exact this
 · have e2:i=xs.length:=by rw [List.length_append,List.length_singleton] at hi;omega
   subst e2
   simpa using hx
theorem lft_succ (rs:List Rl) (l:List Int) (xs:List Stp) {i:Nat} (h:i<xs.length):lft rs l (xs.take (i+1))=stepL rs (lft rs l (xs.take i)) xs[i]:=by
 rw [List.take_add_one,List.getElem?_eq_getElem h]
 exact lft_snoc rs l _ _
theorem GoOk.weight {rs:List Rl} {st:St} (hF:Fin rs st) {l:List Int} {xs:List Stp} (h:GoOk rs l xs):∀ i,i≤xs.length→(i:Int)+wS rs st (lft rs l (xs.take i))≤wS rs st l
 | 0,_=>by simp [lft]
 | i+1,hi=>by
  have ih:=h.weight hF i (by omega)
  have:=(h i (by omega)).light hF
  rw [lft_succ rs l xs (by omega)]
  omega
theorem wS_len {rs:List Rl} {st:St} (h:Fin rs st):∀ l:List Int,(l.length:Int)≤wS rs st l∧wS rs st l≤64*l.length
 | []=>by simp [wS]
 | u::l=>by
  have:=wS_len h l
  have:=h.wK_in u
  rw [wS,List.length_cons]
  omega
def sumA:List Stp→Int
 | []=>0
 | x::l=>x.a+sumA l
theorem sumA_snoc (l:List Stp) (x:Stp):sumA (l++[x])=sumA l+x.a:=by
 induction l with
 | nil=>simp [sumA]
 | cons y l ih=>simp only [List.cons_append,sumA,ih];omega
theorem nextS_ok {rs:List Rl} (hc:∀ r∈rs,chk r=0) (d:List Int) {l:List Int} (hl:0<l.length) :
 (nxtK rs d l rs.length = -1∧OkStp rs l ⟨-1,d.length,l.length,1,1,0⟩)∨∃ (i:Nat) (hi:i<rs.length),nxtK rs d l rs.length=i∧rs[i].key.length≤l.length∧layB rs[i] (l.take rs[i].key.length)=true∧OkStp rs l ⟨i,d.length,l.length,rs[i].key.length,rs[i].cu,(backP rs[i]).length⟩:=by
 rcases nxtK_is rs d l rs.length (Nat.le_refl _) with h | ⟨i,hi,_,h1,h2⟩
 · exact .inl ⟨h,.inl ⟨rfl,rfl,rfl,hl⟩⟩
 · have h3:=stF_key h2
   have h4:layB rs[i] (l.take rs[i].key.length)=true:=by
    simp only [layB,Bool.and_eq_true,decide_eq_true_eq]
    exact ⟨hc _ (List.getElem_mem hi),h3.2⟩
   exact .inr ⟨i,hi,h1,h3.1,h4,.inr ⟨i,hi,rfl,rfl,h3.1,h4,rfl⟩⟩
def ruleN (rs:List Rl) (d l:List Int):Option Rl:=if nxtK rs d l rs.length<0 then none else rs[(nxtK rs d l rs.length).toNat]?
def stp (rs:List Rl) (d l:List Int):Stp:=match ruleN rs d l with
 | none=>⟨-1,d.length,l.length,1,1,0⟩
 | some r=>⟨nxtK rs d l rs.length,d.length,l.length,r.key.length,r.cu,(backP r).length⟩
def layd (rs:List Rl) (d l:List Int):List Int:=match ruleN rs d l with
 | none=>l.take 1
 | some r=>(outs r (l.take r.key.length)).take r.cu.toNat
def lefd (rs:List Rl) (d l:List Int):List Int:=match ruleN rs d l with
 | none=>l.drop 1
 | some r=>(outs r (l.take r.key.length)).drop r.cu.toNat++l.drop r.key.length
def go3 (rs:List Rl) (l0:List Int):Nat→List Stp × List Int × List Int
 | 0=>([],[],l0)
 | k+1=>if (go3 rs l0 k).2.2=[] then go3 rs l0 k else ((go3 rs l0 k).1++[stp rs (go3 rs l0 k).2.1 (go3 rs l0 k).2.2],(go3 rs l0 k).2.1++layd rs (go3 rs l0 k).2.1 (go3 rs l0 k).2.2,lefd rs (go3 rs l0 k).2.1 (go3 rs l0 k).2.2)
def G3 (rs:List Rl) (l0:List Int) (xs:List Stp) (d l:List Int):Prop:=go3 rs l0 xs.length=(xs,d,l)
theorem G3.nil (rs:List Rl) (l0:List Int):G3 rs l0 [] [] l0:=rfl
theorem G3.snoc {rs:List Rl} {l0:List Int} {xs:List Stp} {d l:List Int} (h:G3 rs l0 xs d l) (hl:l≠[]):G3 rs l0 (xs++[stp rs d l]) (d++layd rs d l) (lefd rs d l):=by
 unfold G3 at h ⊢
 rw [List.length_append,List.length_singleton,go3,h]
 simp only []
 rw [if_neg hl]
theorem go3_stay {rs:List Rl} {l0:List Int} {k:Nat} (h:(go3 rs l0 k).2.2=[]):∀ m,go3 rs l0 (k+m)=go3 rs l0 k
 | 0=>rfl
 | m+1=>by
  have ih:=go3_stay h m
  rw [←Nat.add_assoc,go3,ih,if_pos h]
theorem G3.one {rs:List Rl} {l0:List Int} {xs xs':List Stp} {d d':List Int} (h:G3 rs l0 xs d []) (h':G3 rs l0 xs' d' []):xs=xs'∧d=d':=by
 unfold G3 at h h'
 have key:∀ (a b:Nat),a≤b→(go3 rs l0 a).2.2=[]→go3 rs l0 b=go3 rs l0 a:=fun a b hab h0=>by
  have:=go3_stay h0 (b - a)
  rwa [show a+(b - a)=b by omega] at this
 have e:(xs,d,([]:List Int))=(xs',d',[]):=by
  rcases Nat.le_total xs.length xs'.length with hl | hl
  · have:=key _ _ hl (by rw [h])
    rw [h,h'] at this
    exact this.symm
  · have:=key _ _ hl (by rw [h'])
    rw [h,h'] at this
    exact this
 injection e with e1 e2
 injection e2 with e2 _
 exact ⟨e1,e2⟩
theorem stp_none {rs:List Rl} {d l:List Int} (h:nxtK rs d l rs.length = -1):stp rs d l=⟨-1,d.length,l.length,1,1,0⟩∧layd rs d l=l.take 1∧lefd rs d l=l.drop 1:=by
 have e:ruleN rs d l=none:=by unfold ruleN;rw [if_pos (by omega)]
 unfold stp layd lefd
 rw [e]
 exact ⟨rfl,rfl,rfl⟩
theorem stp_rule {rs:List Rl} {d l:List Int} {i:Nat} (hi:i<rs.length) (h:nxtK rs d l rs.length=i):stp rs d l=⟨i,d.length,l.length,rs[i].key.length,rs[i].cu,(backP rs[i]).length⟩∧layd rs d l=(outs rs[i] (l.take rs[i].key.length)).take rs[i].cu.toNat∧lefd rs d l=(outs rs[i] (l.take rs[i].key.length)).drop rs[i].cu.toNat++l.drop rs[i].key.length:=by
 have e:ruleN rs d l=some rs[i]:=by unfold ruleN;rw [if_neg (by omega),h];simp [hi]
 unfold stp layd lefd
 rw [e,h]
 exact ⟨rfl,rfl,rfl⟩
structure G3K (rs:List Rl) (l0:List Int) (k:Nat) (p:List Stp × List Int × List Int):Prop where
 ok:GoOk rs l0 p.1
 lf:lft rs l0 p.1=p.2.2
 dn:(p.2.1.length:Int)=sumA p.1
 d16:p.2.1.length≤16*p.1.length
 un:AllU l0→AllU p.2.2∧AllU p.2.1
 k:p.1.length=k∨p.1.length≤k∧p.2.2=[]
theorem stp_ok {rs:List Rl} (hc:∀ r∈rs,chk r=0) (d:List Int) {l:List Int} (hl:l≠[]):OkStp rs l (stp rs d l)∧stepL rs l (stp rs d l)=lefd rs d l∧(layd rs d l).length=(stp rs d l).a∧(layd rs d l).length≤16∧(AllU l→AllU (layd rs d l)):=by
 have hl0:=List.length_pos_iff.2 hl
 rcases nextS_ok hc d hl0 with ⟨h,hok⟩ | ⟨i,hi,h,h2,h3,hok⟩
 · obtain ⟨e1,e2,e3⟩:=stp_none h
   rw [e1,e2,e3]
   refine ⟨hok,by unfold stepL;rw [if_pos (show (-1:Int)<0 by decide)],by simp;omega,by simp;omega,fun hu u h=>hu u (List.mem_of_mem_take h)⟩
 · obtain ⟨e1,e2,e3⟩:=stp_rule hi h
   rw [e1,e2,e3]
   have hO:=chk_ok (hc _ (List.getElem_mem hi))
   have ho:(outs rs[i] (l.take rs[i].key.length)).length=rs[i].res.length:=by simp [outs]
   have q1:=hO.r16
   have q2:=hO.c0
   have q3:=hO.c1
   have e4:((outs rs[i] (l.take rs[i].key.length)).take rs[i].cu.toNat).length=rs[i].cu.toNat:=by rw [List.length_take,ho];omega
   refine ⟨hok,?_,by rw [e4];show _=rs[i].cu;omega,by rw [e4];omega,fun hu u h => ?_⟩
   · rw [stepL_rule hi rfl rfl]
     simp [outs,backP,List.map_drop]
   · obtain ⟨p,hp,rfl⟩:=List.mem_map.1 (List.mem_of_mem_take h)
     exact (wr_any h3 hp).w
theorem go3_ok {rs:List Rl} (hc:∀ r∈rs,chk r=0) (l0:List Int):∀ k,G3K rs l0 k (go3 rs l0 k)
 | 0=>⟨GoOk.nil _ _,rfl,rfl,by simp [go3],fun h=>⟨h,fun u hu=>by simp [go3] at hu⟩,.inl rfl⟩
 | k+1=>by
  have ih:=go3_ok hc l0 k
  rw [go3]
  by_cases hl:(go3 rs l0 k).2.2=[]
  · rw [if_pos hl]
    exact ⟨ih.ok,ih.lf,ih.dn,ih.d16,ih.un,.inr ⟨by rcases ih.k with h | h <;> omega,hl⟩⟩
  · rw [if_neg hl]
    obtain ⟨h1,h2,h3,h4,h5⟩:=stp_ok hc (go3 rs l0 k).2.1 hl
    have hk:(go3 rs l0 k).1.length=k:=ih.k.resolve_right fun h=>hl h.2
    refine ⟨ih.ok.snoc (by rw [ih.lf];exact h1),by rw [lft_snoc,ih.lf];exact h2,?_,?_,fun hu => ?_,.inl (by simp [hk])⟩
    · have:=ih.dn
      rw [sumA_snoc,List.length_append]
      omega
    · have:=ih.d16
      simp only [List.length_append,List.length_singleton]
      omega
    · have:=ih.un hu
      refine ⟨?_,this.2.append (h5 this.1)⟩
      show AllU (lefd rs _ _)
      rw [←h2]
      exact h1.units this.1
theorem G3.k {rs:List Rl} (hc:∀ r∈rs,chk r=0) {l0:List Int} {xs:List Stp} {d l:List Int} (h:G3 rs l0 xs d l):G3K rs l0 xs.length (xs,d,l):=by
 have:=go3_ok hc l0 xs.length
 unfold G3 at h
 rwa [h] at this
theorem G3.lens {rs:List Rl} {st:St} (hF:Fin rs st) (hc:∀ r∈rs,chk r=0) {l0:List Int} {xs:List Stp} {d l:List Int} (h:G3 rs l0 xs d l):(xs.length:Int)+l.length≤wS rs st l0∧wS rs st l0≤64*l0.length∧d.length≤16*xs.length:=by
 have hk:=h.k hc
 have h1:=hk.ok.weight hF xs.length (Nat.le_refl _)
 have e:lft rs l0 (xs.take xs.length)=l:=by rw [List.take_length];exact hk.lf
 rw [e] at h1
 have h2:=(wS_len hF l0).2
 have h3:=(wS_len hF l).1
 exact ⟨by omega,h2,hk.d16⟩
def fin3 (rs:List Rl) (st:St) (l0:List Int):List Stp × List Int × List Int:=go3 rs l0 (wS rs st l0).toNat
theorem fin3_end {rs:List Rl} {st:St} (hF:Fin rs st) (hc:∀ r∈rs,chk r=0) (l0:List Int):(fin3 rs st l0).2.2=[]:=by
 unfold fin3
 have hk:=go3_ok hc l0 (wS rs st l0).toNat
 rcases hk.k with h | h
 · have h1:=hk.ok.weight hF _ (Nat.le_refl _)
   rw [List.take_length,hk.lf,h] at h1
   have h2:=(wS_len hF l0).1
   have h3:=(wS_len hF (go3 rs l0 (wS rs st l0).toNat).2.2).1
   exact List.eq_nil_of_length_eq_zero (by omega)
 · exact h.2
theorem go3_pre (rs:List Rl) (l0:List Int):∀ k m,(go3 rs l0 k).1 <+: (go3 rs l0 (k+m)).1
 | k,0=>List.prefix_refl _
 | k,m+1=>by
  refine (go3_pre rs l0 k m).trans ?_
  rw [←Nat.add_assoc,go3]
  split
  · exact List.prefix_refl _
  · exact List.prefix_append _ _
theorem fin3_G3 {rs:List Rl} {st:St} (hF:Fin rs st) (hc:∀ r∈rs,chk r=0) (l0:List Int):G3 rs l0 (fin3 rs st l0).1 (fin3 rs st l0).2.1 []:=by
 have he:=fin3_end hF hc l0
 have hk:=go3_ok hc l0 (wS rs st l0).toNat
 unfold G3
 have key:go3 rs l0 (fin3 rs st l0).1.length=fin3 rs st l0:=by
  have:∀ K,go3 rs l0 (go3 rs l0 K).1.length=go3 rs l0 K:=fun K=>by
   induction K with
   | zero=>rfl
   | succ K ih=>
    by_cases hl:(go3 rs l0 K).2.2=[]
    · have e:go3 rs l0 (K+1)=go3 rs l0 K:=by rw [go3,if_pos hl]
      rw [e,ih]
    · have hK:=(go3_ok hc l0 K).k.resolve_right fun h=>hl h.2
      have e:(go3 rs l0 (K+1)).1.length=K+1:=by rw [go3,if_neg hl];simp [hK]
      rw [e]
  exact this _
 rw [key]
 rcases hX:fin3 rs st l0 with ⟨a,b,c⟩
 rw [hX] at he
 simp only at he
 rw [he]
theorem G3.prefix {rs:List Rl} {l0:List Int} {xs xf:List Stp} {d l df:List Int} (h:G3 rs l0 xs d l) (hf:G3 rs l0 xf df []):xs=xf.take xs.length:=by
 unfold G3 at h hf
 rcases Nat.le_total xs.length xf.length with h1 | h1
 · have hp:=go3_pre rs l0 xs.length (xf.length - xs.length)
   rw [show xs.length+(xf.length - xs.length)=xf.length by omega,hf,h] at hp
   exact List.prefix_iff_eq_take.1 hp
 · have:=go3_stay (rs:=rs) (l0:=l0) (k:=xf.length) (by rw [hf]) (xs.length - xf.length)
   rw [show xf.length+(xs.length - xf.length)=xs.length by omega,h,hf] at this
   injection this with e _
   rw [e];simp
end Go.Proofs
