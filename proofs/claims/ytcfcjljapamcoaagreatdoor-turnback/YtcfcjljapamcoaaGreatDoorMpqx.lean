/-
  Several texts in one (Rcx Icx).
-/
import Derived.RangeFuncNested
import Derived.RangeFuncBound
import Derived.RangeFuncCalls
import Derived.RangeFuncLeaves
import Derived.Shelf.Abstract
import Derived.Shelf.RegionOpen
import Derived.WalkKit
import Derived.WalkSpells
import Derived.WalkLawsBesides
import Derived.OwnWalkIn
import Derived.TacticsInMore
import Derived.LoopNIn
import Derived.LoopIn
import Derived.BigQuiet
import Derived.RegionIn
import Derived.Deep.QuietTactic
import Derived.Deep.RegionWith
import Derived.Lib.OthersKept
import Derived.Maps.AppendAt
import Derived.Lib.SmallJoins
import Derived.Test.YtcfcjljapamcoaaGreatDoorMppx
import Derived.Shelf.SlSortCmp.QuietGrown
import Derived.Test.YtcfcjljapamcoaaGreatDoorMgdx
namespace Go.Proofs
open Go.RowKit Go.Shelf
set_option maxRecDepth 100000
attribute [local go_sem] Oper.semAt_some
def isU (u:Int):Prop:=(0≤u∧u≤55295)∨(57344≤u∧u≤1114111)∨(1114240≤u∧u≤1114367)
theorem good_units {r:List (Int × Int)} (h:Good r) {u:Int} (hu:hasU r u):isU u:=by
 obtain ⟨x,hx,h1,h2⟩:=hu
 have:=(h.1 x hx).2
 unfold isU;omega
set_option maxHeartbeats 1000000 in
theorem rplace_no (v:Value) (l:List (Int × Int)) (u:Int) (w:World) (h:Rs w v l) (hb:(validB l && decide (hasU l u))=false):Calls Tryz.prog 119 #[v,.int .i64 u] w fun e w'=>e = .returned (.tuple #[.int .i64 0,.bool false])∧Grown w w':=by
 have HC:Hid (Calls Tryz.prog 25 #[v,.int .i64 u] w fun e w'=>e = .returned (.bool false)∧Grown w w'):=by have:=rhas_any v l u w h;rw [hb] at this;exact this
 clear h hb
 go_enter Tryz.func119,Tryz.ntmps119
 go_wp2_with fail
 refine HC.out.mono ?_
 rintro e w1 ⟨rfl,hb1⟩
 go_wp2
 go_ret2
 exact ⟨rfl,hb1⟩
set_option maxHeartbeats 2000000 in
theorem rplace_in (g o c:Nat) (l:List (Int × Int)) (u:Int) (w:World) (h:Reads w g o l) (hcp:l.length≤c) (hv:validB l=true) (hh:hasU l u):Calls Tryz.prog 119 #[.slice (some ⟨g,o,none⟩) l.length c,.int .i64 u] w fun e w'=>e = .returned (.tuple #[.int .i64 (placeU l u),.bool true])∧Grown w w':=by
 have HC:Hid (Calls Tryz.prog 25 #[.slice (some ⟨g,o,none⟩) l.length c,.int .i64 u] w fun e w'=>e = .returned (.bool true)∧Grown w w'):=by have:=rhas_any _ l u w ⟨_,c,rfl,hcp,.inr ⟨g,o,rfl,h⟩⟩;rw [hv,decide_eq_true hh] at this;exact this
 have hv':=(validB_iff l).1 hv
 have hlt0:fnd l u<l.length:=by
  have h1:=fnd_le l u
  by_cases e:fnd l u=l.length
  · exact absurd hh (hasU_end hv'.2 e)
  · omega
 have hu:=good_units hv'.2 hh
 unfold isU at hu
 have hu1:0≤u:=by omega
 have hu2:u≤1114367:=by omega
 obtain ⟨n,hn⟩:∃ n,l.length=n:=⟨_,rfl⟩
 have HN:Hid (l.length=n):=hn
 have HG:Hid (Good l):=hv'.2
 have HH:Hid (Reads w g o l):=h
 have HLT:Hid (fnd l u<l.length):=hlt0
 obtain ⟨r,hr⟩:∃ r:Int,placeU l u=r:=⟨_,rfl⟩
 have HR:Hid (placeU l u=r):=hr
 have hn5:n≤512:=by omega
 rw [hn] at HC ⊢
 rw [hr]
 clear hr hn h hv hcp hv' hh hlt0 hu
 go_enter Tryz.func119,Tryz.ntmps119
 go_wp2_with fail
 refine HC.out.mono ?_
 rintro e w1 ⟨rfl,hb1⟩
 go_wp2
 go_loopw [6,7] (fun vt vi wr=>∃ k:Nat,∃ t:Int,vi = .int .i64 k∧vt = .int .i64 t∧k≤n∧Hid (tot (l.take k)=t∧k≤fnd l u)∧Grown w wr) (fun _ vi _=>n - (intOf vi).toNat)
 case atStart=>exact ⟨0,0,rfl,rfl,by omega,⟨rfl,Nat.zero_le _⟩,hb1⟩
 case round=>
  obtain ⟨k,t,rfl,rfl,hk,hTt,hB⟩:=hrel
  have hlt:k<n:=by have h1:=hTt.out.2;have h2:=HLT.out;rw [HN.out] at h2;omega
  as_aux_lemma=>
   have hlt':(k:Int)<(n:Int):=by omega
   have hpos:(0:Int)≤(k:Int):=by omega
   have hkl:k<l.length:=by rw [HN.out];exact hlt
   obtain ⟨a,b,hab⟩:∃ a b:Int,rg l k=(a,b):=⟨_,_,rfl⟩
   obtain ⟨ca,cb⟩:=HH.out k hkl
   rw [hab] at ca cb
   simp only at ca cb
   have ca:=hB.cellv ca
   have cb:=hB.cellv cb
   have hw:Whole (a,b):=by rw [←hab];exact good_at HG.out hkl
   have hb0:0≤t∧t≤512*1114368:=by
    have:=tot_bound (l:=l.take k) (fun x hx=>HG.out.1 x (List.mem_of_mem_take hx))
    rw [hTt.out.1,List.length_take] at this
    omega
   obtain ⟨t1,t2⟩:=hb0
   have hab0:a≤b∧0≤a∧b≤1114367:=by rw [whole_iff] at hw;omega
   obtain ⟨a1,a2,a3⟩:=hab0
   have hf:=fnd_lt HG.out u hkl
   rw [hab] at hf
   simp only at hf
   by_cases hc:u≤b
   · as_aux_lemma=>
      have HF:Hid (t+u - a=r):=by
       show t+u - a=r
       have e:fnd l u=k:=by have:=hTt.out.2;by_cases e:k=fnd l u;exact e.symm;exact absurd (hf.1 (by omega)) (by omega)
       rw [←HR.out]
       unfold placeU
       rw [e,hTt.out.1,hab]
      clear hTt hw hf hab
      go_wp2
      go_ret2
      exact ⟨by rw [HF.out];rfl,hB⟩
   · as_aux_lemma=>
      have HS:Hid (tot (l.take (k+1))=t+b - a+1∧k+1≤fnd l u):=by
       refine ⟨?_,?_⟩
       · have:=tot_succ hkl;rw [hTt.out.1,hab] at this;rw [this];show t+(b - a+1)=_;omega
       · have:=hf.2 (by omega);omega
      have hd:decide (u≤b)=false:=by simp;omega
      clear hTt hw hf hab hc
      go_wp2
      go_quiet (fail)
      go_wp2
      exact ⟨⟨k+1,t+b - a+1,by go_num,by go_num,by omega,HS,hB.drewN _⟩,by simp [intOf];omega⟩
theorem rplace_any (v:Value) (l:List (Int × Int)) (u:Int) (w:World) (h:Rs w v l):Calls Tryz.prog 119 #[v,.int .i64 u] w fun e w'=>e = .returned (.tuple #[.int .i64 (if validB l && decide (hasU l u) then placeU l u else 0),.bool (validB l && decide (hasU l u))])∧Grown w w':=by
 by_cases hb:(validB l && decide (hasU l u))=true
 · rw [if_pos hb,hb]
   simp only [Bool.and_eq_true,decide_eq_true_eq] at hb
   obtain ⟨a,c,rfl,hcp,hr⟩:=h
   rcases hr with rfl | ⟨g,o,rfl,hr⟩
   · obtain ⟨x,hx,_⟩:=hb.2;simp at hx
   · exact rplace_in g o c l u w hr hcp hb.1 hb.2
 · have hb':(validB l && decide (hasU l u))=false:=by simpa using hb
   rw [if_neg hb,hb']
   exact rplace_no v l u w h hb'
theorem nth_over:∀ (l:List (Int × Int)) (n:Int),(∀ y∈l,Whole y)→tot l≤n→nthL l n=none
 | [],_,_,_=>rfl
 | x::l,n,hw,h=>by
  rw [tot_cons] at h
  have hw':∀ y∈l,Whole y:=fun y hy=>hw y (by simp [hy])
  have:=(tot_bound hw').1
  rw [nthL,if_neg (by omega)]
  exact nth_over l _ hw' (by omega)
set_option maxHeartbeats 1000000 in
theorem rnth_neg (v:Value) (n:Int) (w:World) (hn:n<0):Calls Tryz.prog 120 #[v,.int .i64 n] w fun e w'=>e = .returned (.tuple #[.int .i64 0,.bool false])∧Grown w w':=by
 go_enter Tryz.func120,Tryz.ntmps120
 go_wp2
 go_ret2
 exact ⟨rfl,Grown.refl _⟩
set_option maxHeartbeats 1000000 in
theorem rnth_over (v:Value) (l:List (Int × Int)) (n:Int) (w:World) (h:Rs w v l) (hn:0≤n) (ho:lenU l≤n):Calls Tryz.prog 120 #[v,.int .i64 n] w fun e w'=>e = .returned (.tuple #[.int .i64 0,.bool false])∧Grown w w':=by
 have HC:Hid (Calls Tryz.prog 108 #[v] w fun e w'=>e = .returned (.int .i64 (lenU l))∧Grown w w'):=rlen_any v l w h
 generalize lenU l=x at HC ho
 have hd:decide (n<0)=false:=by simp;omega
 clear h
 go_enter Tryz.func120,Tryz.ntmps120
 go_wp2_with fail
 refine HC.out.mono ?_
 rintro e w1 ⟨rfl,hb1⟩
 go_wp2
 go_ret2
 exact ⟨rfl,hb1⟩
set_option maxHeartbeats 2000000 in
theorem rnth_walk (g o c:Nat) (l:List (Int × Int)) (n0:Int) (w:World) (h:Reads w g o l) (hcp:l.length≤c) (hv:validB l=true) (hn0:0≤n0) (hlt0:n0<lenU l):Calls Tryz.prog 120 #[.slice (some ⟨g,o,none⟩) l.length c,.int .i64 n0] w fun e w'=>e = .returned (nthV (nthL l n0))∧Grown w w':=by
 have hv':=(validB_iff l).1 hv
 have HC:Hid (Calls Tryz.prog 108 #[.slice (some ⟨g,o,none⟩) l.length c] w fun e w'=>e = .returned (.int .i64 (lenU l))∧Grown w w'):=rlen_any _ l w ⟨_,c,rfl,hcp,.inr ⟨g,o,rfl,h⟩⟩
 have hlb:=tot_bound hv'.2.1
 have hll:lenU l≤600000000:=by unfold lenU;rw [if_pos hv];omega
 obtain ⟨n,hn⟩:∃ n,l.length=n:=⟨_,rfl⟩
 have HN:Hid (l.length=n):=hn
 obtain ⟨r,hr⟩:∃ r,nthL l n0=r:=⟨_,rfl⟩
 have HR:Hid (nthL l n0=r):=hr
 have HH:Hid (Reads w g o l):=h
 have HW:Hid (Good l):=hv'.2
 have hd:decide (n0<0)=false:=by simp;omega
 have hn5:n≤512:=by omega
 generalize lenU l=x at HC hlt0 hll
 have hd2:decide (x≤n0)=false:=by simp;omega
 rw [hn] at HC ⊢
 rw [hr]
 clear hr hn h hv hv' hcp hlb
 go_enter Tryz.func120,Tryz.ntmps120
 go_wp2_with fail
 refine HC.out.mono ?_
 rintro e w1 ⟨rfl,hb1⟩
 go_wp2
 go_loopw [1,6] (fun vn vi wr=>∃ k:Nat,∃ t:Int,vi = .int .i64 k∧vn = .int .i64 t∧k≤n∧0≤t∧t≤9223372036854775807∧Hid (nthL (l.drop k) t=r)∧Grown w wr) (fun _ vi _=>n - (intOf vi).toNat)
 case atStart=>exact ⟨0,n0,rfl,rfl,by omega,hn0,by omega,HR,hb1⟩
 case round=>
  obtain ⟨k,t,rfl,rfl,hk,t1,t2,hTt,hB⟩:=hrel
  by_cases hlt:k<n
  · as_aux_lemma=>
     have hlt':(k:Int)<(n:Int):=by omega
     have hpos:(0:Int)≤(k:Int):=by omega
     have hkl:k<l.length:=by rw [HN.out];exact hlt
     obtain ⟨a,b,hab⟩:∃ a b:Int,rg l k=(a,b):=⟨_,_,rfl⟩
     obtain ⟨ca,cb⟩:=HH.out k hkl
     rw [hab] at ca cb
     simp only at ca cb
     have ca:=hB.cellv ca
     have cb:=hB.cellv cb
     have hw:Whole (a,b):=by rw [←hab];exact good_at HW.out hkl
     have hab0:a≤b∧0≤a∧b≤1114367:=by rw [whole_iff] at hw;omega
     obtain ⟨a1,a2,a3⟩:=hab0
     have HS:Hid ((if t<b - a+1 then some (a+t) else nthL (l.drop (k+1)) (t - (b - a+1)))=r):=by have:=hTt.out;rw [drop_rg hkl,hab] at this;exact this
     clear hab hTt hw
     by_cases ht:t<b - a+1
     · as_aux_lemma=>
        have HS2:Hid (some (a+t)=r):=by have:=HS.out;rw [if_pos ht] at this;exact this
        clear HS
        go_wp2
        go_quiet (fail)
        go_wp2
        go_ret2
        refine ⟨?_,hB.drewN _⟩
        rw [←HS2.out];rfl
     · as_aux_lemma=>
        have HS2:Hid (nthL (l.drop (k+1)) (t - (b - a+1))=r):=by have:=HS.out;rw [if_neg ht] at this;exact this
        have hd2:decide (t<b - a+1)=false:=by simp;omega
        clear HS
        go_wp2
        go_quiet (fail)
        go_wp2
        exact ⟨⟨k+1,t - (b - a+1),by go_num,by go_num,by omega,by omega,by omega,HS2,hB.drewN _⟩,by simp [intOf];omega⟩
  · have HS2:Hid (none=r):=by have:=hTt.out;rw [List.drop_eq_nil_of_le (by rw [HN.out];omega)] at this;exact this
    clear hTt
    go_wp2
    go_ret2
    refine ⟨?_,hB⟩
    rw [←HS2.out];rfl
theorem rnth_any (v:Value) (l:List (Int × Int)) (n:Int) (w:World) (h:Rs w v l):Calls Tryz.prog 120 #[v,.int .i64 n] w fun e w'=>e = .returned (nthV (nthU l n))∧Grown w w':=by
 unfold nthU
 by_cases hn:n<0
 · rw [if_pos (.inl hn)];exact rnth_neg v n w hn
 · by_cases ho:lenU l≤n
   · have e:(if n<0∨validB l=false then none else nthL l n)=none:=by
      split
      · rfl
      · rename_i hx
        have hv:validB l=true:=by simpa using fun k=>hx (.inr k)
        have:=ho
        unfold lenU at this
        rw [if_pos hv] at this
        exact nth_over l n ((validB_iff l).1 hv).2.1 this
     rw [e]
     exact rnth_over v l n w h (by omega) ho
   · have hv:validB l=true:=by
      cases hx:validB l with
      | true=>rfl
      | false=>unfold lenU at ho;rw [hx] at ho;simp at ho;omega
     rw [if_neg (by simp [hv];omega)]
     obtain ⟨a,c,rfl,hcp,hr⟩:=h
     rcases hr with rfl | ⟨g,o,rfl,hr⟩
     · exact absurd (show lenU []≤n by unfold lenU;rw [if_pos hv];simp [tot];omega) ho
     · exact rnth_walk g o c l n w hr hcp hv (by omega) (by omega)
end Go.Proofs
namespace Go.Proofs
open Go.RowKit Go.Shelf
set_option maxRecDepth 100000
attribute [local go_sem] Oper.semAt_some
attribute [local go_sem ↓] Go.wp_at_zero Go.wp_at_succ
theorem nth_lt:∀ (l:List (Int × Int)) (n:Int),(∀ x∈l,Whole x)→0≤n→n<tot l→∃ v,nthL l n=some v∧hasU l v
 | [],n,_,h0,h1=>by simp [tot] at h1;omega
 | x::r,n,hw,h0,h1=>by
  rw [tot_cons] at h1
  unfold nthL
  by_cases h:n<x.2 - x.1+1
  · rw [if_pos h]
    exact ⟨_,rfl,(hasU_cons _ _ _).2 (.inl ⟨by omega,by omega⟩)⟩
  · rw [if_neg h]
    obtain ⟨v,h2,h3⟩:=nth_lt r (n - (x.2 - x.1+1)) (fun y hy=>hw y (List.mem_cons_of_mem _ hy)) (by omega) (by omega)
    exact ⟨v,h2,(hasU_cons _ _ _).2 (.inr h3)⟩
theorem place_lt {l:List (Int × Int)} (h:Good l) {u:Int} (hu:hasU l u):placeU l u<tot l:=by
 have h1:=(nth_place h hu).1
 by_cases e:tot l≤placeU l u
 · rw [nth_over l _ h.1 e] at h1
   cases h1
 · omega
structure Paired (f t:List (Int × Int)):Prop where
 vf:validB f=true
 vt:validB t=true
 p:0<lenU f
 e:lenU f=lenU t
theorem part_some {f t:List (Int × Int)} (h:Paired f t) {u:Int} (hu:hasU f u):nthL t (placeU f u)=some (partU f t u)∧hasU t (partU f t u):=by
 have hf:=(validB_iff f).1 h.vf
 have ht:=(validB_iff t).1 h.vt
 have hp:=(nth_place hf.2 hu).2
 have h1:=place_lt hf.2 hu
 have e:=h.e
 unfold lenU at e
 rw [if_pos h.vf,if_pos h.vt] at e
 obtain ⟨v,h2,h3⟩:=nth_lt t (placeU f u) ht.2.1 hp (by omega)
 have hh:hasB f u=true:=by simp [hasB,h.vf,hu]
 have:partU f t u=v:=by
  unfold partU
  rw [if_pos hh]
  unfold nthU
  rw [if_neg (by simp [h.vt];omega),h2]
  rfl
 rw [this]
 exact ⟨h2,h3⟩
theorem wd_unit {u:Int} (h:isU u):wd u≠0:=by
 unfold isU at h
 by_cases h1:(0≤u∧u≤127)∨(1114240≤u∧u≤1114367)
 · rw [wd_1 h1];decide
 · by_cases h2:128≤u∧u≤2047
   · rw [wd_2 h2];decide
   · by_cases h3:2048≤u∧u≤65535
     · rw [wd_3 (by omega)];decide
     · rw [wd_4 (by omega)];decide
theorem hasB_unit {l:List (Int × Int)} {u:Int} (h:hasB l u=true):wd u≠0:=by
 simp only [hasB,Bool.and_eq_true,decide_eq_true_eq] at h
 exact wd_unit (good_units ((validB_iff l).1 h.1).2 h.2)
theorem st_at {ls:List (List (Int × Int))} {us:List Int} (h:stB ls us=true) {j:Nat} (h1:j<ls.length) (h2:j<us.length):hasB ls[j] us[j]=true:=by
 simp only [stB,Bool.and_eq_true,decide_eq_true_eq] at h
 have:=List.all_eq_true.1 h.2 (ls[j],us[j]) (by
  rw [List.mem_iff_getElem]
  exact ⟨j,by rw [List.length_zip];omega,List.getElem_zip⟩)
 exact this
structure Wr (key:List (List (Int × Int))) (us:List Int) (p:Pc) (u:Int):Prop where
 w:wd u≠0
 k:p.k=1∨p.k=2∨p.k=3
 k1:p.k=1→u=p.u
 k2:p.k=2→∃ (j:Nat) (hj:j<us.length),p.y=j∧us[j]=u
 k3:p.k=3→hasB p.tl u=true
theorem wr_any {r:Rl} {us:List Int} (h:layB r us=true) {p:Pc} (hp:p∈r.res):Wr r.key us p (wrt r.key us p):=by
 simp only [layB,Bool.and_eq_true,decide_eq_true_eq] at h
 have hok:=chk_ok h.1
 have hl:=st_len h.2
 rcases pc_ok (hok.pc p hp) with ⟨h1,h2,_,_⟩ | ⟨h1,_,_,h4,h5⟩ | ⟨h1,_,h3,h4,h5⟩
 · have e:wrt r.key us p=p.u:=by unfold wrt;rw [if_neg (by omega),if_neg (by omega)]
   rw [e]
   exact ⟨h2,.inl h1,fun _=>rfl,fun k=>by omega,fun k=>by omega⟩
 · obtain ⟨j,hj⟩:∃ j:Nat,p.y=(j:Int):=⟨p.y.toNat,by omega⟩
   have hjk:j<r.key.length:=by omega
   have hju:j<us.length:=by omega
   have e:wrt r.key us p=us[j]:=by
    unfold wrt
    rw [if_neg (by omega),if_pos h1,hj]
    simp [unitAt,hju]
   rw [e]
   exact ⟨hasB_unit (st_at h.2 hjk hju),.inr (.inl h1),fun k=>by omega,fun _=>⟨j,hju,hj,rfl⟩,fun k=>by omega⟩
 · obtain ⟨j,hj⟩:∃ j:Nat,p.y=(j:Int):=⟨p.y.toNat,by omega⟩
   have hjk:j<r.key.length:=by omega
   have hju:j<us.length:=by omega
   have e1:keyAt r.key (j:Int)=r.key[j]:=by simp [keyAt,hjk]
   have e2:unitAt us (j:Int)=us[j]:=by simp [unitAt,hju]
   have e:wrt r.key us p=partU r.key[j] p.tl us[j]:=by
    unfold wrt
    rw [if_pos h1,hj,e1,e2]
   rw [hj,e1] at h5
   simp only [matB,Bool.and_eq_true,decide_eq_true_eq] at h5
   have hS:=List.all_eq_true.1 hok.kS r.key[j] (List.getElem_mem hjk)
   have hS2:=hS
   simp only [okS,Bool.and_eq_true] at hS2
   have hP:Paired r.key[j] p.tl:=⟨hS2.1,h5.1,lenU_ok hS,h5.2⟩
   have hh:=st_at h.2 hjk hju
   have hh2:=hh
   simp only [hasB,Bool.and_eq_true,decide_eq_true_eq] at hh2
   have hq:=(part_some hP hh2.2).2
   have hb:hasB p.tl (partU r.key[j] p.tl us[j])=true:=by simp [hasB,h5.1,hq]
   rw [e]
   exact ⟨hasB_unit hb,.inr (.inr h1),fun k=>by omega,fun k=>by omega,fun _=>hb⟩
end Go.Proofs
