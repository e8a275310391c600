/-
  The blocks of two runs.
-/
import Derived.RangeFuncNested
import Derived.RangeFuncBound
import Derived.RangeFuncCalls
import Derived.RangeFuncLeaves
import Derived.Shelf.Abstract
import Derived.Shelf.RegionOpen
import Derived.WalkKit
import Derived.WalkSpells
import Derived.WalkLawsBesides
import Derived.OwnWalkIn
import Derived.TacticsInMore
import Derived.LoopNIn
import Derived.LoopIn
import Derived.BigQuiet
import Derived.RegionIn
import Derived.Deep.QuietTactic
import Derived.Deep.RegionWith
import Derived.Lib.OthersKept
import Derived.Maps.AppendAt
import Derived.Lib.SmallJoins
import Derived.Shelf.SlSortCmp.QuietGrown
import Derived.RangeFuncWrites
import Derived.RangeFuncBox
import Derived.Maps.OwnIn
import Derived.Test.YtpopemkhhdekcaaDoorMgpp
namespace Go.Proofs
open Go.RowKit Go.Shelf
set_option maxRecDepth 100000
attribute [local go_sem] Oper.semAt_some
attribute [local go_sem ↓] Go.wp_at_zero Go.wp_at_succ
def met (hs:List Int) (t:Int):Option Nat:=hs.findIdx? (· == t)
theorem met_some {hs:List Int} {t:Int} {i:Nat} (h1:∀ (j:Nat) (hj:j<hs.length),j<i→hs[j]<t) (h2:∃ h:i<hs.length,hs[i]=t):met hs t=some i:=by
 obtain ⟨hi,e⟩:=h2
 unfold met
 rw [List.findIdx?_eq_some_iff_getElem]
 exact ⟨hi,by simpa using e,fun j hj=>by have:=h1 j (by omega) hj;simp;omega⟩
theorem met_none {hs:List Int} {t:Int} {i:Nat} (hr:Rise hs) (h1:∀ (j:Nat) (hj:j<hs.length),j<i→hs[j]<t) (h3:∀ (j:Nat) (hj:j<hs.length),i≤j→t≤hs[j]) (h2:¬ ∃ h:i<hs.length,hs[i]=t):met hs t=none:=by
 unfold met
 rw [List.findIdx?_eq_none_iff]
 intro x hx
 obtain ⟨j,hj,rfl⟩:=List.mem_iff_getElem.1 hx
 by_cases hji:j<i
 · have:=h1 j hj hji;simp;omega
 · have hi:i<hs.length:=by omega
   have a1:=h3 i hi (Nat.le_refl _)
   have a2:=hr i j hi hj (by omega)
   have a3:hs[i]≠t:=fun e=>h2 ⟨hi,e⟩
   simp;omega
def thrN (la lb:List Bk):Nat→List Bk
 | 0=>[]
 | n+1=>match met (srcs lb) (rAt la (n+1)) with
  | some k=>thrN la lb n++[upB (thrN la lb n) (sAt la (n+1)) (rAt lb k)]
  | none=>thrN la lb n
theorem thrN_len (la lb:List Bk):∀ n,(thrN la lb n).length≤n
 | 0=>Nat.le_refl _
 | n+1=>by
  have:=thrN_len la lb n
  unfold thrN
  split
  · simp;omega
  · omega
def ThrOk (la lb:List Bk):Prop:=Join la∧Join lb∧rAt la la.length=sAt lb lb.length
def ThQ (w:World) (la lb:List Bk) (e:Ending) (w':World):Prop:=∃ lv ev,e = .returned (.tuple #[lv,ev])∧((ThrOk la lb∧ev = .int .i64 0∧OwnK w' w.heap.size lv (thrN la lb la.length))∨(¬ ThrOk la lb∧ev = .int .i64 1∧lv = .slice none 0 0))∧Below w.heap.size w w'
def ThR (W0:World) (base:Nat) (ov:Value) (L:Nat) (l:List Bk) (s z:Int) (v:Value) (w3:World):Prop:=∃ gg cap,v = .slice (some ⟨gg,0,none⟩) (L+1) cap∧OwnK w3 base (.slice (some ⟨gg,0,none⟩) (L+1) cap) (l++[upB l s z])∧Fr W0 w3 (fun k=>ov.ownBlock=some k)
def dep_valTh:Nat→List Nat
 | 3=>[1,2]
 | 4=>[3]
 | 7=>[5,6]
 | 8=>[7]
 | _=>[]
def valTh (ov sv xv:Value) (i k sg q1 xg q2:Nat) (s z:Int):Nat→Option Value
 | 0=>some (ov)
 | 1=>some (sv)
 | 2=>some (.int .i64 (i:Int))
 | 3=>some (.pointer (some ⟨sg,q1,none⟩))
 | 4=>some (.int .i64 s)
 | 5=>some (xv)
 | 6=>some (.int .i64 (k:Int))
 | 7=>some (.pointer (some ⟨xg,q2,none⟩))
 | 8=>some (.int .i64 z)
 | _=>none
set_option maxHeartbeats 4000000 in
theorem through_badA (a:Option Addr) (n c:Nat) (la:List Bk) (b:Option Addr) (m d:Nat) (lb:List Bk) (w:World) (ha:KR w (.slice a n c) la) (hb:KR w (.slice b m d) lb) (hn:la.length=n) (hm:lb.length=m) (hnb:n≤1000000) (hmb:m≤1000000) (hj:¬ Join la):Calls Tryd.prog 14 #[.slice a n c,.slice b m d] w (ThQ w la lb):=by
 have HB1:=Hid.mk' (borders_any _ la w ha (by omega))
 have HK:=Hid.mk' hb
 have HM:=Hid.mk' hm
 obtain ⟨N,hN⟩:∃ N,(bS la).length=N:=⟨_,rfl⟩
 obtain ⟨M,hM⟩:∃ M,(bS lb).length=M:=⟨_,rfl⟩
 have hN':(bR la).length=N:=(b_len la).1.symm.trans hN
 have hM':(bR lb).length=M:=(b_len lb).1.symm.trans hM
 clear ha hb
 have hz:N=0:=by rw [←hN];unfold bS;rw [if_neg hj];rfl
 subst hz
 have HNO:Hid (¬ ThrOk la lb):=fun h=>hj h.1
 go_enter Tryd.func14,Tryd.ntmps14
 go_wp2_with (go_at_call 28;first | (refine HB1.out.mono ?_;rintro e w1 ⟨sv,rv,rfl,o1,o2,o3,hb1⟩;obtain ⟨sa,sc,hs⟩:=o1.sl;obtain ⟨ra,rc,hr⟩:=o2.sl;rw [hN] at hs;rw [hN'] at hr;subst hs;subst hr;have HO:=Hid.mk' (And.intro o1 (And.intro o2 hb1));have HB2:=Hid.mk' (borders_any _ lb w1 (HK.out.below hb1 (Nat.le_refl _)) (by have:=HM.out;omega));clear o1 o2 o3 hb1 HB1) | (refine HB2.out.mono ?_;rintro e w2 ⟨tv,xv,rfl,p1,p2,p3,hb2⟩;obtain ⟨ta,tc,hs⟩:=p1.sl;obtain ⟨xa,xc,hr⟩:=p2.sl;rw [hM] at hs;rw [hM'] at hr;subst hs;subst hr;have HP:=Hid.mk' (And.intro p1 (And.intro p2 hb2));clear p1 p2 p3 hb2 HB2))
 go_big_quiet (fail)
 go_wp2
 refine bodyPost_ret (v := .tuple #[.slice none 0 0,.int .i64 1]) (by simp [results,Tryd.f14,go_sem]) rfl ?_
 have hbb:=HO.out.2.2.trans (HP.out.2.2.mono HO.out.2.2.size)
 exact ⟨_,_,rfl,.inr ⟨HNO.out,rfl,rfl⟩,hbb.trans (((Grown.refl w2).drewN _).below.mono hbb.size)⟩
set_option maxHeartbeats 4000000 in
theorem through_badB (a:Option Addr) (n c:Nat) (la:List Bk) (b:Option Addr) (m d:Nat) (lb:List Bk) (w:World) (ha:KR w (.slice a n c) la) (hb:KR w (.slice b m d) lb) (hn:la.length=n) (hm:lb.length=m) (hnb:n≤1000000) (hmb:m≤1000000) (hj1:Join la) (hj:¬ Join lb):Calls Tryd.prog 14 #[.slice a n c,.slice b m d] w (ThQ w la lb):=by
 have HB1:=Hid.mk' (borders_any _ la w ha (by omega))
 have HK:=Hid.mk' hb
 have HM:=Hid.mk' hm
 obtain ⟨N,hN⟩:∃ N,(bS la).length=N:=⟨_,rfl⟩
 obtain ⟨M,hM⟩:∃ M,(bS lb).length=M:=⟨_,rfl⟩
 have hN':(bR la).length=N:=(b_len la).1.symm.trans hN
 have hM':(bR lb).length=M:=(b_len lb).1.symm.trans hM
 clear ha hb
 have hz:M=0:=by rw [←hM];unfold bS;rw [if_neg hj];rfl
 subst hz
 have hNn:N=n+1:=by rw [←hN];unfold bS;rw [if_pos hj1,srcs_len,hn]
 have hzN:¬ (N:Int)=0:=by omega
 have hbN:((N:Int) == 0)=false:=by simp;omega
 have HNO:Hid (¬ ThrOk la lb):=fun h=>hj h.2.1
 clear hNn
 go_enter Tryd.func14,Tryd.ntmps14
 go_wp2_with (go_at_call 28;first | (refine HB1.out.mono ?_;rintro e w1 ⟨sv,rv,rfl,o1,o2,o3,hb1⟩;obtain ⟨sa,sc,hs⟩:=o1.sl;obtain ⟨ra,rc,hr⟩:=o2.sl;rw [hN] at hs;rw [hN'] at hr;subst hs;subst hr;have HO:=Hid.mk' (And.intro o1 (And.intro o2 hb1));have HB2:=Hid.mk' (borders_any _ lb w1 (HK.out.below hb1 (Nat.le_refl _)) (by have:=HM.out;omega));clear o1 o2 o3 hb1 HB1) | (refine HB2.out.mono ?_;rintro e w2 ⟨tv,xv,rfl,p1,p2,p3,hb2⟩;obtain ⟨ta,tc,hs⟩:=p1.sl;obtain ⟨xa,xc,hr⟩:=p2.sl;rw [hM] at hs;rw [hM'] at hr;subst hs;subst hr;have HP:=Hid.mk' (And.intro p1 (And.intro p2 hb2));clear p1 p2 p3 hb2 HB2))
 go_big_quiet (fail)
 go_wp2
 refine bodyPost_ret (v := .tuple #[.slice none 0 0,.int .i64 1]) (by simp [results,Tryd.f14,go_sem]) rfl ?_
 have hbb:=HO.out.2.2.trans (HP.out.2.2.mono HO.out.2.2.size)
 exact ⟨_,_,rfl,.inr ⟨HNO.out,rfl,rfl⟩,hbb.trans (((Grown.refl w2).drewN _).below.mono hbb.size)⟩
set_option maxHeartbeats 4000000 in
theorem through_badC (a:Option Addr) (n c:Nat) (la:List Bk) (b:Option Addr) (m d:Nat) (lb:List Bk) (w:World) (ha:KR w (.slice a n c) la) (hb:KR w (.slice b m d) lb) (hn:la.length=n) (hm:lb.length=m) (hnb:n≤1000000) (hmb:m≤1000000) (hj1:Join la) (hj2:Join lb) (hne:rAt la la.length≠sAt lb lb.length):Calls Tryd.prog 14 #[.slice a n c,.slice b m d] w (ThQ w la lb):=by
 have HB1:=Hid.mk' (borders_any _ la w ha (by omega))
 have HK:=Hid.mk' hb
 have HM:=Hid.mk' hm
 obtain ⟨N,hN⟩:∃ N,(bS la).length=N:=⟨_,rfl⟩
 obtain ⟨M,hM⟩:∃ M,(bS lb).length=M:=⟨_,rfl⟩
 have hN':(bR la).length=N:=(b_len la).1.symm.trans hN
 have hM':(bR lb).length=M:=(b_len lb).1.symm.trans hM
 clear ha hb
 have hNn:N=n+1:=by rw [←hN];unfold bS;rw [if_pos hj1,srcs_len,hn]
 have hMm:M=m+1:=by rw [←hM];unfold bS;rw [if_pos hj2,srcs_len,hm]
 obtain ⟨x,hx⟩:∃ x,(bR la).getD n 0=x:=⟨_,rfl⟩
 obtain ⟨y,hy⟩:∃ y,(bS lb).getD m 0=y:=⟨_,rfl⟩
 have hxr:rAt la la.length=x:=by rw [←hx,hn];unfold rAt bR;rw [if_pos hj1]
 have hyr:sAt lb lb.length=y:=by rw [←hy,hm];unfold sAt bS;rw [if_pos hj2]
 have hzN:¬ (N:Int)=0:=by omega
 have hbN:((N:Int) == 0)=false:=by simp;omega
 have hzM:¬ (M:Int)=0:=by omega
 have hbM:((M:Int) == 0)=false:=by simp;omega
 have hN1:(N:Int) - 1=(n:Int):=by omega
 have hM1:(M:Int) - 1=(m:Int):=by omega
 have hnN:(n:Int)<(N:Int):=by omega
 have hmM:(m:Int)<(M:Int):=by omega
 have hnI:(n:Int)≤1000000:=by omega
 have hmI:(m:Int)≤1000000:=by omega
 have HNN:Hid (n<(bR la).length∧n<(bS la).length∧m<(bS lb).length∧m<(bR lb).length∧N=n+1∧M=m+1):=⟨by omega,by omega,by omega,by omega,hNn,hMm⟩
 clear hNn hMm
 rw [hxr,hyr] at hne
 have hbx:(x == y)=false:=by simpa using hne
 have hbx2:(x != y)=true:=by simpa using hne
 have HNO:Hid (¬ ThrOk la lb):=fun h=>hne (by rw [←hxr,←hyr];exact h.2.2)
 clear hxr hyr
 go_enter Tryd.func14,Tryd.ntmps14
 go_wp2_with (go_at_call 28;first | (refine HB1.out.mono ?_;rintro e w1 ⟨sv,rv,rfl,o1,o2,o3,hb1⟩;obtain ⟨sa,sc,hs⟩:=o1.sl;obtain ⟨ra,rc,hr⟩:=o2.sl;rw [hN] at hs;rw [hN'] at hr;subst hs;subst hr;have HO:=Hid.mk' (And.intro o1 (And.intro o2 hb1));have HB2:=Hid.mk' (borders_any _ lb w1 (HK.out.below hb1 (Nat.le_refl _)) (by have:=HM.out;omega));clear o1 o2 o3 hb1 HB1) | (refine HB2.out.mono ?_;rintro e w2 ⟨tv,xv,rfl,p1,p2,p3,hb2⟩;obtain ⟨ta,tc,hs⟩:=p1.sl;obtain ⟨xa,xc,hr⟩:=p2.sl;rw [hM] at hs;rw [hM'] at hr;subst hs;subst hr;obtain ⟨rg,ro,hra,c1⟩:=ir_cell (HO.out.2.1.ir.below hb2 (Nat.le_refl _)) (j:=n) HNN.out.1;subst hra;obtain ⟨tg,tq,hta,c2⟩:=ir_cell p1.ir (j:=m) HNN.out.2.2.1;subst hta;rw [hx] at c1;rw [hy] at c2;have HP:=Hid.mk' (And.intro p1 (And.intro p2 hb2));clear p1 p2 p3 hb2 HB2))
 go_big_quiet (fail)
 go_wp2
 refine bodyPost_ret (v := .tuple #[.slice none 0 0,.int .i64 1]) (by simp [results,Tryd.f14,go_sem]) rfl ?_
 have hbb:=HO.out.2.2.trans (HP.out.2.2.mono HO.out.2.2.size)
 exact ⟨_,_,rfl,.inr ⟨HNO.out,rfl,rfl⟩,hbb.trans (((Grown.refl w2).drewN _).below.mono hbb.size)⟩
theorem thrN_some {la lb:List Bk} {n k:Nat} (h:met (srcs lb) (rAt la (n+1))=some k):thrN la lb (n+1)=thrN la lb n++[upB (thrN la lb n) (sAt la (n+1)) (rAt lb k)]:=by
 rw [thrN,h]
theorem thrN_none {la lb:List Bk} {n:Nat} (h:met (srcs lb) (rAt la (n+1))=none):thrN la lb (n+1)=thrN la lb n:=by
 rw [thrN,h]
set_option maxHeartbeats 8000000 in
theorem through_good (a:Option Addr) (n c:Nat) (la:List Bk) (b:Option Addr) (m d:Nat) (lb:List Bk) (w:World) (ha:KR w (.slice a n c) la) (hb:KR w (.slice b m d) lb) (hn:la.length=n) (hm:lb.length=m) (hnb:n≤1000000) (hmb:m≤1000000) (hj1:Join la) (hj2:Join lb) (heq:rAt la la.length=sAt lb lb.length):Calls Tryd.prog 14 #[.slice a n c,.slice b m d] w (ThQ w la lb):=by
 have HB1:=Hid.mk' (borders_any _ la w ha (by omega))
 have HK:=Hid.mk' hb
 have HM:=Hid.mk' hm
 obtain ⟨N,hN⟩:∃ N,(bS la).length=N:=⟨_,rfl⟩
 obtain ⟨M,hM⟩:∃ M,(bS lb).length=M:=⟨_,rfl⟩
 have hN':(bR la).length=N:=(b_len la).1.symm.trans hN
 have hM':(bR lb).length=M:=(b_len lb).1.symm.trans hM
 clear ha hb
 have hNn:N=n+1:=by rw [←hN];unfold bS;rw [if_pos hj1,srcs_len,hn]
 have hMm:M=m+1:=by rw [←hM];unfold bS;rw [if_pos hj2,srcs_len,hm]
 obtain ⟨x,hx⟩:∃ x,(bR la).getD n 0=x:=⟨_,rfl⟩
 obtain ⟨y,hy⟩:∃ y,(bS lb).getD m 0=y:=⟨_,rfl⟩
 have hxr:rAt la la.length=x:=by rw [←hx,hn];unfold rAt bR;rw [if_pos hj1]
 have hyr:sAt lb lb.length=y:=by rw [←hy,hm];unfold sAt bS;rw [if_pos hj2]
 have hzN:¬ (N:Int)=0:=by omega
 have hbN:((N:Int) == 0)=false:=by simp;omega
 have hzM:¬ (M:Int)=0:=by omega
 have hbM:((M:Int) == 0)=false:=by simp;omega
 have hN1:(N:Int) - 1=(n:Int):=by omega
 have hM1:(M:Int) - 1=(m:Int):=by omega
 have hnN:(n:Int)<(N:Int):=by omega
 have hmM:(m:Int)<(M:Int):=by omega
 have hnI:(n:Int)≤1000000:=by omega
 have hmI:(m:Int)≤1000000:=by omega
 have HNN:Hid (n<(bR la).length∧n<(bS la).length∧m<(bS lb).length∧m<(bR lb).length∧N=n+1∧M=m+1):=⟨by omega,by omega,by omega,by omega,hNn,hMm⟩
 clear hNn hMm
 have HOK:Hid (ThrOk la lb):=⟨hj1,hj2,heq⟩
 have HSA:Hid (bS la=srcs la∧bR la=ress la∧bS lb=srcs lb∧bR lb=ress lb∧Rise (bS lb)):=⟨by unfold bS;rw [if_pos hj1],by unfold bR;rw [if_pos hj1],by unfold bS;rw [if_pos hj2],by unfold bR;rw [if_pos hj2],bS_rise lb⟩
 have HLA:Hid (la.length=n∧lb.length=m):=⟨hn,hm⟩
 rw [hxr,hyr] at heq
 have heq:=heq.symm
 subst heq
 clear hxr hyr
 go_enter Tryd.func14,Tryd.ntmps14
 go_wp2_with (go_at_call 28;first | (refine HB1.out.mono ?_;rintro e w1 ⟨sv,rv,rfl,o1,o2,o3,hb1⟩;obtain ⟨sa,sc,hs⟩:=o1.sl;obtain ⟨ra,rc,hr⟩:=o2.sl;rw [hN] at hs;rw [hN'] at hr;subst hs;subst hr;have HO:=Hid.mk' (And.intro o1 (And.intro o2 hb1));have HB2:=Hid.mk' (borders_any _ lb w1 (HK.out.below hb1 (Nat.le_refl _)) (by have:=HM.out;omega));clear o1 o2 o3 hb1 HB1) | (refine HB2.out.mono ?_;rintro e w2 ⟨tv,xv,rfl,p1,p2,p3,hb2⟩;obtain ⟨ta,tc,hs⟩:=p1.sl;obtain ⟨xa,xc,hr⟩:=p2.sl;rw [hM] at hs;rw [hM'] at hr;subst hs;subst hr;obtain ⟨rg,ro,hra,c1⟩:=ir_cell (HO.out.2.1.ir.below hb2 (Nat.le_refl _)) (j:=n) HNN.out.1;subst hra;obtain ⟨tg,tq,hta,c2⟩:=ir_cell p1.ir (j:=m) HNN.out.2.2.1;subst hta;obtain ⟨sg,sq,hsa,_⟩:=ir_cell (HO.out.1.ir) (j:=n) HNN.out.2.1;subst hsa;obtain ⟨xg,xq,hxa,_⟩:=ir_cell p2.ir (j:=m) HNN.out.2.2.2.1;subst hxa;rw [hx] at c1;rw [hy] at c2;have HP:=Hid.mk' (And.intro p1 (And.intro p2 hb2));clear p1 p2 p3 hb2 HB2))
 go_big_quiet (fail)
 have hbb:Hid (Below w.heap.size w w2):=HO.out.2.2.trans (HP.out.2.2.mono HO.out.2.2.size)
 have hNI:(N:Int)≤1000001:=by have:=HNN.out.2.2.2.2.1;omega
 have hMI:(M:Int)≤1000001:=by have:=HNN.out.2.2.2.2.2;omega
 have HO2:Hid (IR w2 (.slice (some ⟨sg,sq,none⟩) N sc) (bS la)∧IR w2 (.slice (some ⟨rg,ro,none⟩) N rc) (bR la)):=⟨HO.out.1.ir.below HP.out.2.2 (Nat.le_refl _),HO.out.2.1.ir.below HP.out.2.2 (Nat.le_refl _)⟩
 clear c1 c2
 go_wp2
 go_loopg [10,11] N (fun q s10 s11 wr=>∃ (i:Nat) (oa:Option Addr) (L oc:Nat),s10 = .slice oa L oc∧s11 = .int .i64 (i:Int)∧1≤i∧i≤N∧N - i≤q∧L≤i∧Hid (OwnK wr w2.heap.size (.slice oa L oc) (thrN la lb (i - 1))∧(thrN la lb (i - 1)).length=L∧Below w2.heap.size w2 wr))
 case atStart=>exact ⟨1,none,0,0,rfl,rfl,by omega,by omega,by omega,by omega,OwnK.nil _ _,rfl,((Grown.refl w2).drewN _).below⟩
 case round=>
  obtain ⟨i,oa,L,oc,rfl,rfl,hi1,hi2,hi3,hLi,HR⟩:=hrel
  have hiI:(i:Int)≤1000001:=by omega
  by_cases hil:i<N
  · have hilI:(i:Int)<(N:Int):=by omega
    obtain ⟨r1,r2,r3⟩:=HR.out
    obtain ⟨_,_,ee,k1⟩:=ir_cell (HO2.out.2.below r3 (Nat.le_refl _)) (j:=i) (by rw [hN'];exact hil)
    injection ee with ee
    injection ee with e1 e2 _
    subst e1
    subst e2
    obtain ⟨_,_,ee,k2⟩:=ir_cell (HO2.out.1.below r3 (Nat.le_refl _)) (j:=i) (by rw [hN];exact hil)
    injection ee with ee
    injection ee with e1 e2 _
    subst e1
    subst e2
    obtain ⟨t,ht⟩:∃ t,(bR la).getD i 0=t:=⟨_,rfl⟩
    obtain ⟨s,hs⟩:∃ s,(bS la).getD i 0=s:=⟨_,rfl⟩
    rw [ht] at k1
    rw [hs] at k2
    have HTS:Hid (rAt la i=t∧sAt la i=s):=by
     refine ⟨?_,?_⟩
     · rw [←ht,HSA.out.2.1];rfl
     · rw [←hs,HSA.out.1];rfl
    have HS:=Hid.mk' (search_walk (some ⟨tg,tq,none⟩) M tc (bS lb) t wr ((HP.out.1.ir).below r3 (Nat.le_refl _)) hM (by omega) HSA.out.2.2.2.2)
    clear r1 r2 r3 ht hs
    go_wp2_with (go_at_call 30;refine HS.out.mono ?_;rintro e w' ⟨k,f,rfl,hi,hlo,hhi,hf,hx⟩;have hx:=hx.symm;subst hx;have HI:=Hid.mk' (And.intro hi (And.intro hlo (And.intro hhi hf)));clear hi hlo hhi hf;cases f)
    · go_roundg (N - (i+1))
      case measure=>omega
      case rel=>
       obtain ⟨r1,r2,r3⟩:=HR.out
       obtain ⟨q1,q2,q3,q4⟩:=HI.out
       have hmn:met (srcs lb) (rAt la (i - 1+1))=none:=by
        rw [Nat.sub_add_cancel hi1,HTS.out.1,←HSA.out.2.2.1]
        exact met_none HSA.out.2.2.2.2 q2 q3 (fun h=>by have:=q4.2 h;cases this)
       have hth:=thrN_none hmn
       rw [Nat.sub_add_cancel hi1] at hth
       exact ⟨i+1,oa,L,oc,rfl,rfl,by omega,by omega,Nat.le_refl _,by omega,by rw [Nat.add_sub_cancel,hth];exact r1,by rw [Nat.add_sub_cancel,hth];exact r2,r3⟩
    · have hkM:k<M:=by
       obtain ⟨h1,_⟩:=HI.out.2.2.2.1 (by first | exact trivial | rfl)
       rw [hM] at h1
       exact h1
      have hkI:(k:Int)≤1000001:=by omega
      have hkMI:(k:Int)<(M:Int):=by omega
      obtain ⟨r1,r2,r3⟩:=HR.out
      obtain ⟨_,_,ee,k3⟩:=ir_cell (HP.out.2.1.ir.below r3 (Nat.le_refl _)) (j:=k) (by rw [hM'];exact hkM)
      injection ee with ee
      injection ee with e1 e2 _
      subst e1
      subst e2
      obtain ⟨z,hz⟩:∃ z,(bR lb).getD k 0=z:=⟨_,rfl⟩
      rw [hz] at k3
      have HZ:Hid (rAt lb k=z):=by show _=_;rw [←hz,HSA.out.2.2.2.1];rfl
      have HU:Hid (∀ V,Grown wr V→Calls Tryd.prog 31 #[.slice oa L oc,.int .i64 s,.int .i64 z] V fun e w'=>∃ gg cap,e = .returned (.slice (some ⟨gg,0,none⟩) (L+1) cap)∧OwnK w' w2.heap.size (.slice (some ⟨gg,0,none⟩) (L+1) cap) (thrN la lb (i - 1)++[upB (thrN la lb (i - 1)) s z])∧Fr V w' (fun k=>(Value.slice oa L oc).ownBlock=some k)∧(some gg=(Value.slice oa L oc).ownBlock∨V.heap.size≤gg)):=fun V hg=>upTo_walk oa L oc _ s z w2.heap.size V (own_fr r1 (fr_grown hg (fun _=>False)) fun _ _ e=>e) r2 (by omega) (by have:=r3.size;have:=hg.size;omega)
      clear r1 r2 r3 hz
      refine wp_region_inv2 mixed (by kernel_rfl) (by kernel_rfl) (by kernel_rfl) (JC dep_valTh (valTh (.slice oa L oc) (.slice (some ⟨sg,sq,none⟩) N sc) (.slice (some ⟨xg,xq,none⟩) M xc) i k sg (sq+i) xg (xq+k) s z) (fun _ v=>v) 9 wr.drew (ThR wr w2.heap.size (.slice oa L oc) L (thrN la lb (i - 1)) s z)) (JC.start _ _ _ _ _ _) ⟨?_,?_,?_,?_,?_,?_,?_,?_,?_,?_,?_,trivial⟩ ?_
      · as_aux_lemma=>
         intro aA wx p vs hJ hdep hpi hval hfr K hK
         rw [if_pos (show Region.wanted _ _=true from rfl)]
         have zd0:aA.tmps.getD 10 undef = .slice oa L oc:=hfr 10 (ndst1 10 (by kernel_rfl) ((hJ.n (hJ.nS 0 (by decide) hpi)).2 10 (by decide)))
         have hW:=hJ.same 0 (by decide) hpi
         subst hW
         have hJ':=hJ.pure 0 (by decide) hpi rfl (dep_all hdep (by kernel_rfl))
         clear hval hfr hdep hJ
         simp only [Array.getD_eq_getD_getElem?] at zd0
         go_simp
         exact hK _ _ hJ'
      · as_aux_lemma=>
         intro aA wx p vs hJ hdep hpi hval hfr K hK
         rw [if_pos (show Region.wanted _ _=true from rfl)]
         have zd0:aA.tmps.getD 6 undef = .slice (some ⟨sg,sq,none⟩) N sc:=hfr 6 (ndst (by kernel_rfl))
         have hW:=hJ.same 1 (by decide) hpi
         subst hW
         have hJ':=hJ.pure 1 (by decide) hpi rfl (dep_all hdep (by kernel_rfl))
         clear hval hfr hdep hJ
         simp only [Array.getD_eq_getD_getElem?] at zd0
         go_simp
         exact hK _ _ hJ'
      · as_aux_lemma=>
         intro aA wx p vs hJ hdep hpi hval hfr K hK
         rw [if_pos (show Region.wanted _ _=true from rfl)]
         have zd0:aA.tmps.getD 11 undef = .int .i64 (i:Int):=hfr 11 (ndst (by kernel_rfl))
         have hW:=hJ.same 2 (by decide) hpi
         subst hW
         have hJ':=hJ.pure 2 (by decide) hpi rfl (dep_all hdep (by kernel_rfl))
         clear hval hfr hdep hJ
         simp only [Array.getD_eq_getD_getElem?] at zd0
         go_simp
         exact hK _ _ hJ'
      · as_aux_lemma=>
         intro aA wx p vs hJ hdep hpi hval hfr K hK
         rw [if_pos (show Region.wanted _ _=true from rfl)]
         have zd0:aA.tmps.getD 64 undef = .slice (some ⟨sg,sq,none⟩) N sc:=(hval 1 _ 64 (hdep 1 (by kernel_rfl)) (by rfl) rfl).trans (hJ.v 1 _ (by decide) rfl (hdep 1 (by kernel_rfl)))
         have zd1:aA.tmps.getD 65 undef = .int .i64 (i:Int):=(hval 2 _ 65 (hdep 2 (by kernel_rfl)) (by rfl) rfl).trans (hJ.v 2 _ (by decide) rfl (hdep 2 (by kernel_rfl)))
         have hW:=hJ.same 3 (by decide) hpi
         subst hW
         have hJ':=hJ.pure 3 (by decide) hpi rfl (dep_all hdep (by kernel_rfl))
         clear hval hfr hdep hJ
         simp only [Array.getD_eq_getD_getElem?] at zd0 zd1
         go_simp
         exact hK _ _ hJ'
      · as_aux_lemma=>
         intro aA wx p vs hJ hdep hpi hval hfr K hK
         rw [if_pos (show Region.wanted _ _=true from rfl)]
         have zd0:aA.tmps.getD 66 undef = .pointer (some ⟨sg,sq+i,none⟩):=(hval 3 _ 66 (hdep 3 (by kernel_rfl)) (by rfl) rfl).trans (hJ.v 3 _ (by decide) rfl (hdep 3 (by kernel_rfl)))
         have hW:=hJ.same 4 (by decide) hpi
         subst hW
         have hJ':=hJ.pure 4 (by decide) hpi rfl (dep_all hdep (by kernel_rfl))
         clear hval hfr hdep hJ
         simp only [Array.getD_eq_getD_getElem?] at zd0
         have hc:=k2
         go_simp
         exact hK _ _ hJ'
      · as_aux_lemma=>
         intro aA wx p vs hJ hdep hpi hval hfr K hK
         rw [if_pos (show Region.wanted _ _=true from rfl)]
         have zd0:aA.tmps.getD 9 undef = .slice (some ⟨xg,xq,none⟩) M xc:=hfr 9 (ndst (by kernel_rfl))
         have hW:=hJ.same 5 (by decide) hpi
         subst hW
         have hJ':=hJ.pure 5 (by decide) hpi rfl (dep_all hdep (by kernel_rfl))
         clear hval hfr hdep hJ
         simp only [Array.getD_eq_getD_getElem?] at zd0
         go_simp
         exact hK _ _ hJ'
      · as_aux_lemma=>
         intro aA wx p vs hJ hdep hpi hval hfr K hK
         rw [if_pos (show Region.wanted _ _=true from rfl)]
         have zd0:aA.tmps.getD 12 undef = .int .i64 (k:Int):=hfr 12 (ndst (by kernel_rfl))
         have hW:=hJ.same 6 (by decide) hpi
         subst hW
         have hJ':=hJ.pure 6 (by decide) hpi rfl (dep_all hdep (by kernel_rfl))
         clear hval hfr hdep hJ
         simp only [Array.getD_eq_getD_getElem?] at zd0
         go_simp
         exact hK _ _ hJ'
      · as_aux_lemma=>
         intro aA wx p vs hJ hdep hpi hval hfr K hK
         rw [if_pos (show Region.wanted _ _=true from rfl)]
         have zd0:aA.tmps.getD 68 undef = .slice (some ⟨xg,xq,none⟩) M xc:=(hval 5 _ 68 (hdep 5 (by kernel_rfl)) (by rfl) rfl).trans (hJ.v 5 _ (by decide) rfl (hdep 5 (by kernel_rfl)))
         have zd1:aA.tmps.getD 69 undef = .int .i64 (k:Int):=(hval 6 _ 69 (hdep 6 (by kernel_rfl)) (by rfl) rfl).trans (hJ.v 6 _ (by decide) rfl (hdep 6 (by kernel_rfl)))
         have hW:=hJ.same 7 (by decide) hpi
         subst hW
         have hJ':=hJ.pure 7 (by decide) hpi rfl (dep_all hdep (by kernel_rfl))
         clear hval hfr hdep hJ
         simp only [Array.getD_eq_getD_getElem?] at zd0 zd1
         go_simp
         exact hK _ _ hJ'
      · as_aux_lemma=>
         intro aA wx p vs hJ hdep hpi hval hfr K hK
         rw [if_pos (show Region.wanted _ _=true from rfl)]
         have zd0:aA.tmps.getD 70 undef = .pointer (some ⟨xg,xq+k,none⟩):=(hval 7 _ 70 (hdep 7 (by kernel_rfl)) (by rfl) rfl).trans (hJ.v 7 _ (by decide) rfl (hdep 7 (by kernel_rfl)))
         have hW:=hJ.same 8 (by decide) hpi
         subst hW
         have hJ':=hJ.pure 8 (by decide) hpi rfl (dep_all hdep (by kernel_rfl))
         clear hval hfr hdep hJ
         simp only [Array.getD_eq_getD_getElem?] at zd0
         have hc:=k3
         go_simp
         exact hK _ _ hJ'
      · as_aux_lemma=>
         intro aA wx p vs hJ hdep hpi hval hfr K hK
         rw [if_pos (show Region.wanted _ _=true from rfl)]
         have zd0:aA.tmps.getD 63 undef = .slice oa L oc:=(hval 0 _ 63 (hdep 0 (by kernel_rfl)) (by rfl) rfl).trans (hJ.v 0 _ (by decide) rfl (hdep 0 (by kernel_rfl)))
         have zd1:aA.tmps.getD 67 undef = .int .i64 s:=(hval 4 _ 67 (hdep 4 (by kernel_rfl)) (by rfl) rfl).trans (hJ.v 4 _ (by decide) rfl (hdep 4 (by kernel_rfl)))
         have zd2:aA.tmps.getD 71 undef = .int .i64 z:=(hval 8 _ 71 (hdep 8 (by kernel_rfl)) (by rfl) rfl).trans (hJ.v 8 _ (by decide) rfl (hdep 8 (by kernel_rfl)))
         have hW:=(hJ.n hpi).1
         subst hW
         have hp0:=hdep 0 (by kernel_rfl)
         have hp4:=hdep 4 (by kernel_rfl)
         have hp8:=hdep 8 (by kernel_rfl)
         have hp3:=hJ.c 4 3 (by decide) (by decide) hp4
         have hp7:=hJ.c 8 7 (by decide) (by decide) hp8
         have hp1:=hJ.c 3 1 (by decide) (by decide) hp3
         have hp2:=hJ.c 3 2 (by decide) (by decide) hp3
         have hp5:=hJ.c 7 5 (by decide) (by decide) hp7
         have hp6:=hJ.c 7 6 (by decide) (by decide) hp7
         have hJ':=fun x W' hr=>hJ.called (x:=x) (W':=W') hpi (fun k hk=>by have h0:k<9:=hk;match k,h0 with | 0,_=>exact hp0 | 1,_=>exact hp1 | 2,_=>exact hp2 | 3,_=>exact hp3 | 4,_=>exact hp4 | 5,_=>exact hp5 | 6,_=>exact hp6 | 7,_=>exact hp7 | 8,_=>exact hp8 | k+9,h=>omega) hr
         clear hval hfr hdep hJ hp0 hp1 hp2 hp3 hp4 hp5 hp6 hp7 hp8
         simp only [Array.getD_eq_getD_getElem?] at zd0 zd1 zd2
         have hKK:=Hid.mk' hK
         clear hK
         go_simp
         go_at_call 31
         refine (HU.out _ (Grown.refl wr).drew).mono ?_
         rintro e w3 ⟨gg,cap,rfl,u1,u2,u3⟩
         exact hKK.out _ _ (hJ' _ _ ⟨gg,cap,rfl,u1,(fr_grown (Grown.refl wr).drew _).trans u2 fun _ _ e=>e⟩)
      · as_aux_lemma=>
         intro aA wx p vs hJ hdep hpi hval hfr K hK
         rw [if_pos (show Region.wanted _ _=true from rfl)]
         have zd0:aA.tmps.getD 72 undef=vs 9:=hval 9 _ 72 (hdep 9 (by kernel_rfl)) (by rfl) rfl
         have hJ':=hJ.after 10 (by decide) (hdep 9 (by kernel_rfl))
         have hR:=(hJ.s (hdep 9 (by kernel_rfl))).2
         clear hval hfr hdep hJ
         simp only [Array.getD_eq_getD_getElem?] at zd0
         go_simp
         exact hK _ _ hJ'
      · intro vs W hJ
        rw [putL_eq]
        simp only [putsL,List.set_cons_zero,List.set_cons_succ,Nat.zero_add,Nat.reduceAdd]
        obtain ⟨gg,cap,hv9,u1,u2⟩:=(hJ.s rfl).2
        have hv10:vs 10=vs 9:=hJ.a 10 (by decide) rfl
        rw [hv10,hv9]
        have HUU:=Hid.mk' (And.intro u1 u2)
        clear hJ hv9 hv10 u1 u2 k1 k2 k3
        generalize vs 0=y0
        generalize vs 1=y1
        generalize vs 2=y2
        generalize vs 3=y3
        generalize vs 4=y4
        generalize vs 5=y5
        generalize vs 6=y6
        generalize vs 7=y7
        generalize vs 8=y8
        go_wp2
        go_roundg (N - (i+1))
        case measure=>omega
        case rel=>
         obtain ⟨u1,u2⟩:=HUU.out
         obtain ⟨r1,r2,r3⟩:=HR.out
         obtain ⟨q1,q2,q3,q4⟩:=HI.out
         have hmn:met (srcs lb) (rAt la (i - 1+1))=some k:=by
          rw [Nat.sub_add_cancel hi1,HTS.out.1,←HSA.out.2.2.1]
          exact met_some q2 (q4.1 (by first | exact trivial | rfl))
         have hth:=thrN_some hmn
         rw [Nat.sub_add_cancel hi1,HTS.out.2,HZ.out] at hth
         refine ⟨i+1,some ⟨gg,0,none⟩,L+1,cap,rfl,rfl,by omega,by omega,Nat.le_refl _,by omega,by rw [Nat.add_sub_cancel,hth];exact u1,by rw [Nat.add_sub_cancel,hth,List.length_append,r2];rfl,r3.trans (u2.below (fun k hk=>(World.ownsRow.lt r1 k hk).1) r3.size)⟩
  · have hie:i=N:=by omega
    subst hie
    go_wp2
    refine bodyPost_ret (v := .tuple #[.slice oa L oc,.int .i64 0]) (by simp [results,Tryd.f14,go_sem]) rfl ?_
    obtain ⟨r1,r2,r3⟩:=HR.out
    refine ⟨_,_,rfl,.inl ⟨HOK.out,rfl,?_⟩,hbb.out.trans (r3.mono hbb.out.size)⟩
    have h1:=HNN.out.2.2.2.2.1
    rw [HLA.out.1]
    have hb':=hbb.out.size
    rw [h1,Nat.add_sub_cancel] at r1
    exact Joins.ownsRow_le r1 hb'
theorem through_any (u v:Value) (la lb:List Bk) (w:World) (ha:KR w u la) (hb:KR w v lb) (hn:la.length≤1000000) (hm:lb.length≤1000000):Calls Tryd.prog 14 #[u,v] w (ThQ w la lb):=by
 have ha':=ha
 have hb':=hb
 obtain ⟨a,c,rfl,_⟩:=ha
 obtain ⟨b,d,rfl,_⟩:=hb
 by_cases h1:Join la
 · by_cases h2:Join lb
   · by_cases h3:rAt la la.length=sAt lb lb.length
     · exact through_good a _ c la b _ d lb w ha' hb' rfl rfl hn hm h1 h2 h3
     · exact through_badC a _ c la b _ d lb w ha' hb' rfl rfl hn hm h1 h2 h3
   · exact through_badB a _ c la b _ d lb w ha' hb' rfl rfl hn hm h1 h2
 · exact through_badA a _ c la b _ d lb w ha' hb' rfl rfl hn hm h1
end Go.Proofs
