/-
  Several texts in one (Zk Zv Pa Tw Pb).
-/
import Derived.RangeFuncNested
import Derived.RangeFuncBound
import Derived.RangeFuncCalls
import Derived.RangeFuncLeaves
import Derived.Shelf.Abstract
import Derived.Shelf.RegionOpen
import Derived.WalkKit
import Derived.WalkSpells
import Derived.WalkLawsBesides
import Derived.OwnWalkIn
import Derived.TacticsInMore
import Derived.LoopNIn
import Derived.LoopIn
import Derived.BigQuiet
import Derived.RegionIn
import Derived.Deep.QuietTactic
import Derived.Deep.RegionWith
import Derived.Lib.OthersKept
import Derived.Maps.AppendAt
import Derived.Lib.SmallJoins
import Derived.Shelf.SlSortCmp.QuietGrown
import Derived.RangeFuncWrites
import Derived.RangeFuncBox
import Derived.Maps.OwnIn
import Derived.Test.YtibgnkpagfpinaaGreatDoorMgnt
import Derived.Test.YtibgnkpagfpinaaGreatDoorMgmt
import Derived.Deep.AppendLies
import Derived.Deep.RegionLaw
namespace Go.Proofs
open Go.RowKit Go.Shelf
set_option maxRecDepth 100000
attribute [local go_sem] Oper.semAt_some
attribute [local go_sem ↓] Go.wp_at_zero Go.wp_at_succ
def met (hs:List Int) (t:Int):Option Nat:=hs.findIdx? (· == t)
theorem met_some {hs:List Int} {t:Int} {i:Nat} (h1:∀ (j:Nat) (hj:j<hs.length),j<i→hs[j]<t) (h2:∃ h:i<hs.length,hs[i]=t):met hs t=some i:=by
 obtain ⟨hi,e⟩:=h2
 unfold met
 rw [List.findIdx?_eq_some_iff_getElem]
 exact ⟨hi,by simpa using e,fun j hj=>by have:=h1 j (by omega) hj;simp;omega⟩
theorem met_none {hs:List Int} {t:Int} {i:Nat} (hr:Rise hs) (h1:∀ (j:Nat) (hj:j<hs.length),j<i→hs[j]<t) (h3:∀ (j:Nat) (hj:j<hs.length),i≤j→t≤hs[j]) (h2:¬ ∃ h:i<hs.length,hs[i]=t):met hs t=none:=by
 unfold met
 rw [List.findIdx?_eq_none_iff]
 intro x hx
 obtain ⟨j,hj,rfl⟩:=List.mem_iff_getElem.1 hx
 by_cases hji:j<i
 · have:=h1 j hj hji;simp;omega
 · have hi:i<hs.length:=by omega
   have a1:=h3 i hi (Nat.le_refl _)
   have a2:=hr i j hi hj (by omega)
   have a3:hs[i]≠t:=fun e=>h2 ⟨hi,e⟩
   simp;omega
def thrN (la lb:List Bk):Nat→List Bk
 | 0=>[]
 | n+1=>match met (srcs lb) (rAt la (n+1)) with
  | some k=>thrN la lb n++[upB (thrN la lb n) (sAt la (n+1)) (rAt lb k)]
  | none=>thrN la lb n
theorem thrN_len (la lb:List Bk):∀ n,(thrN la lb n).length≤n
 | 0=>Nat.le_refl _
 | n+1=>by
  have:=thrN_len la lb n
  unfold thrN
  split
  · simp;omega
  · omega
def ThrOk (la lb:List Bk):Prop:=Join la∧Join lb∧rAt la la.length=sAt lb lb.length
def ThQ (w:World) (la lb:List Bk) (e:Ending) (w':World):Prop:=∃ lv ev,e = .returned (.tuple #[lv,ev])∧((ThrOk la lb∧ev = .int .i64 0∧OwnK w' w.heap.size lv (thrN la lb la.length))∨(¬ ThrOk la lb∧ev = .int .i64 1∧lv = .slice none 0 0))∧Below w.heap.size w w'
def ThR (W0:World) (base:Nat) (ov:Value) (L:Nat) (l:List Bk) (s z:Int) (v:Value) (w3:World):Prop:=∃ gg cap,v = .slice (some ⟨gg,0,none⟩) (L+1) cap∧OwnK w3 base (.slice (some ⟨gg,0,none⟩) (L+1) cap) (l++[upB l s z])∧Fr W0 w3 (fun k=>ov.ownBlock=some k)
def dep_valTh:Nat→List Nat
 | 3=>[1,2]
 | 4=>[3]
 | 7=>[5,6]
 | 8=>[7]
 | _=>[]
def valTh (ov sv xv:Value) (i k sg q1 xg q2:Nat) (s z:Int):Nat→Option Value
 | 0=>some (ov)
 | 1=>some (sv)
 | 2=>some (.int .i64 (i:Int))
 | 3=>some (.pointer (some ⟨sg,q1,none⟩))
 | 4=>some (.int .i64 s)
 | 5=>some (xv)
 | 6=>some (.int .i64 (k:Int))
 | 7=>some (.pointer (some ⟨xg,q2,none⟩))
 | 8=>some (.int .i64 z)
 | _=>none
set_option maxHeartbeats 4000000 in
theorem through_badA (a:Option Addr) (n c:Nat) (la:List Bk) (b:Option Addr) (m d:Nat) (lb:List Bk) (w:World) (ha:KR w (.slice a n c) la) (hb:KR w (.slice b m d) lb) (hn:la.length=n) (hm:lb.length=m) (hnb:n≤1000000) (hmb:m≤1000000) (hj:¬ Join la):Calls Tryz.prog 34 #[.slice a n c,.slice b m d] w (ThQ w la lb):=by
 have HB1:=Hid.mk' (borders_any _ la w ha (by omega))
 have HK:=Hid.mk' hb
 have HM:=Hid.mk' hm
 obtain ⟨N,hN⟩:∃ N,(bS la).length=N:=⟨_,rfl⟩
 obtain ⟨M,hM⟩:∃ M,(bS lb).length=M:=⟨_,rfl⟩
 have hN':(bR la).length=N:=(b_len la).1.symm.trans hN
 have hM':(bR lb).length=M:=(b_len lb).1.symm.trans hM
 clear ha hb
 have hz:N=0:=by rw [←hN];unfold bS;rw [if_neg hj];rfl
 subst hz
 have HNO:Hid (¬ ThrOk la lb):=fun h=>hj h.1
 go_enter Tryz.func34,Tryz.ntmps34
 go_wp2_with (go_at_call 31;first | (refine HB1.out.mono ?_;rintro e w1 ⟨sv,rv,rfl,o1,o2,o3,hb1⟩;obtain ⟨sa,sc,hs⟩:=o1.sl;obtain ⟨ra,rc,hr⟩:=o2.sl;rw [hN] at hs;rw [hN'] at hr;subst hs;subst hr;have HO:=Hid.mk' (And.intro o1 (And.intro o2 hb1));have HB2:=Hid.mk' (borders_any _ lb w1 (HK.out.below hb1 (Nat.le_refl _)) (by have:=HM.out;omega));clear o1 o2 o3 hb1 HB1) | (refine HB2.out.mono ?_;rintro e w2 ⟨tv,xv,rfl,p1,p2,p3,hb2⟩;obtain ⟨ta,tc,hs⟩:=p1.sl;obtain ⟨xa,xc,hr⟩:=p2.sl;rw [hM] at hs;rw [hM'] at hr;subst hs;subst hr;have HP:=Hid.mk' (And.intro p1 (And.intro p2 hb2));clear p1 p2 p3 hb2 HB2))
 go_big_quiet (fail)
 go_wp2
 refine bodyPost_ret (v := .tuple #[.slice none 0 0,.int .i64 1]) (by simp [results,Tryz.f34,go_sem]) rfl ?_
 have hbb:=HO.out.2.2.trans (HP.out.2.2.mono HO.out.2.2.size)
 exact ⟨_,_,rfl,.inr ⟨HNO.out,rfl,rfl⟩,hbb.trans (((Grown.refl w2).drewN _).below.mono hbb.size)⟩
set_option maxHeartbeats 4000000 in
theorem through_badB (a:Option Addr) (n c:Nat) (la:List Bk) (b:Option Addr) (m d:Nat) (lb:List Bk) (w:World) (ha:KR w (.slice a n c) la) (hb:KR w (.slice b m d) lb) (hn:la.length=n) (hm:lb.length=m) (hnb:n≤1000000) (hmb:m≤1000000) (hj1:Join la) (hj:¬ Join lb):Calls Tryz.prog 34 #[.slice a n c,.slice b m d] w (ThQ w la lb):=by
 have HB1:=Hid.mk' (borders_any _ la w ha (by omega))
 have HK:=Hid.mk' hb
 have HM:=Hid.mk' hm
 obtain ⟨N,hN⟩:∃ N,(bS la).length=N:=⟨_,rfl⟩
 obtain ⟨M,hM⟩:∃ M,(bS lb).length=M:=⟨_,rfl⟩
 have hN':(bR la).length=N:=(b_len la).1.symm.trans hN
 have hM':(bR lb).length=M:=(b_len lb).1.symm.trans hM
 clear ha hb
 have hz:M=0:=by rw [←hM];unfold bS;rw [if_neg hj];rfl
 subst hz
 have hNn:N=n+1:=by rw [←hN];unfold bS;rw [if_pos hj1,srcs_len,hn]
 have hzN:¬ (N:Int)=0:=by omega
 have hbN:((N:Int) == 0)=false:=by simp;omega
 have HNO:Hid (¬ ThrOk la lb):=fun h=>hj h.2.1
 clear hNn
 go_enter Tryz.func34,Tryz.ntmps34
 go_wp2_with (go_at_call 31;first | (refine HB1.out.mono ?_;rintro e w1 ⟨sv,rv,rfl,o1,o2,o3,hb1⟩;obtain ⟨sa,sc,hs⟩:=o1.sl;obtain ⟨ra,rc,hr⟩:=o2.sl;rw [hN] at hs;rw [hN'] at hr;subst hs;subst hr;have HO:=Hid.mk' (And.intro o1 (And.intro o2 hb1));have HB2:=Hid.mk' (borders_any _ lb w1 (HK.out.below hb1 (Nat.le_refl _)) (by have:=HM.out;omega));clear o1 o2 o3 hb1 HB1) | (refine HB2.out.mono ?_;rintro e w2 ⟨tv,xv,rfl,p1,p2,p3,hb2⟩;obtain ⟨ta,tc,hs⟩:=p1.sl;obtain ⟨xa,xc,hr⟩:=p2.sl;rw [hM] at hs;rw [hM'] at hr;subst hs;subst hr;have HP:=Hid.mk' (And.intro p1 (And.intro p2 hb2));clear p1 p2 p3 hb2 HB2))
 go_big_quiet (fail)
 go_wp2
 refine bodyPost_ret (v := .tuple #[.slice none 0 0,.int .i64 1]) (by simp [results,Tryz.f34,go_sem]) rfl ?_
 have hbb:=HO.out.2.2.trans (HP.out.2.2.mono HO.out.2.2.size)
 exact ⟨_,_,rfl,.inr ⟨HNO.out,rfl,rfl⟩,hbb.trans (((Grown.refl w2).drewN _).below.mono hbb.size)⟩
set_option maxHeartbeats 4000000 in
theorem through_badC (a:Option Addr) (n c:Nat) (la:List Bk) (b:Option Addr) (m d:Nat) (lb:List Bk) (w:World) (ha:KR w (.slice a n c) la) (hb:KR w (.slice b m d) lb) (hn:la.length=n) (hm:lb.length=m) (hnb:n≤1000000) (hmb:m≤1000000) (hj1:Join la) (hj2:Join lb) (hne:rAt la la.length≠sAt lb lb.length):Calls Tryz.prog 34 #[.slice a n c,.slice b m d] w (ThQ w la lb):=by
 have HB1:=Hid.mk' (borders_any _ la w ha (by omega))
 have HK:=Hid.mk' hb
 have HM:=Hid.mk' hm
 obtain ⟨N,hN⟩:∃ N,(bS la).length=N:=⟨_,rfl⟩
 obtain ⟨M,hM⟩:∃ M,(bS lb).length=M:=⟨_,rfl⟩
 have hN':(bR la).length=N:=(b_len la).1.symm.trans hN
 have hM':(bR lb).length=M:=(b_len lb).1.symm.trans hM
 clear ha hb
 have hNn:N=n+1:=by rw [←hN];unfold bS;rw [if_pos hj1,srcs_len,hn]
 have hMm:M=m+1:=by rw [←hM];unfold bS;rw [if_pos hj2,srcs_len,hm]
 obtain ⟨x,hx⟩:∃ x,(bR la).getD n 0=x:=⟨_,rfl⟩
 obtain ⟨y,hy⟩:∃ y,(bS lb).getD m 0=y:=⟨_,rfl⟩
 have hxr:rAt la la.length=x:=by rw [←hx,hn];unfold rAt bR;rw [if_pos hj1]
 have hyr:sAt lb lb.length=y:=by rw [←hy,hm];unfold sAt bS;rw [if_pos hj2]
 have hzN:¬ (N:Int)=0:=by omega
 have hbN:((N:Int) == 0)=false:=by simp;omega
 have hzM:¬ (M:Int)=0:=by omega
 have hbM:((M:Int) == 0)=false:=by simp;omega
 have hN1:(N:Int) - 1=(n:Int):=by omega
 have hM1:(M:Int) - 1=(m:Int):=by omega
 have hnN:(n:Int)<(N:Int):=by omega
 have hmM:(m:Int)<(M:Int):=by omega
 have hnI:(n:Int)≤1000000:=by omega
 have hmI:(m:Int)≤1000000:=by omega
 have HNN:Hid (n<(bR la).length∧n<(bS la).length∧m<(bS lb).length∧m<(bR lb).length∧N=n+1∧M=m+1):=⟨by omega,by omega,by omega,by omega,hNn,hMm⟩
 clear hNn hMm
 rw [hxr,hyr] at hne
 have hbx:(x == y)=false:=by simpa using hne
 have hbx2:(x != y)=true:=by simpa using hne
 have HNO:Hid (¬ ThrOk la lb):=fun h=>hne (by rw [←hxr,←hyr];exact h.2.2)
 clear hxr hyr
 go_enter Tryz.func34,Tryz.ntmps34
 go_wp2_with (go_at_call 31;first | (refine HB1.out.mono ?_;rintro e w1 ⟨sv,rv,rfl,o1,o2,o3,hb1⟩;obtain ⟨sa,sc,hs⟩:=o1.sl;obtain ⟨ra,rc,hr⟩:=o2.sl;rw [hN] at hs;rw [hN'] at hr;subst hs;subst hr;have HO:=Hid.mk' (And.intro o1 (And.intro o2 hb1));have HB2:=Hid.mk' (borders_any _ lb w1 (HK.out.below hb1 (Nat.le_refl _)) (by have:=HM.out;omega));clear o1 o2 o3 hb1 HB1) | (refine HB2.out.mono ?_;rintro e w2 ⟨tv,xv,rfl,p1,p2,p3,hb2⟩;obtain ⟨ta,tc,hs⟩:=p1.sl;obtain ⟨xa,xc,hr⟩:=p2.sl;rw [hM] at hs;rw [hM'] at hr;subst hs;subst hr;obtain ⟨rg,ro,hra,c1⟩:=ir_cell (HO.out.2.1.ir.below hb2 (Nat.le_refl _)) (j:=n) HNN.out.1;subst hra;obtain ⟨tg,tq,hta,c2⟩:=ir_cell p1.ir (j:=m) HNN.out.2.2.1;subst hta;rw [hx] at c1;rw [hy] at c2;have HP:=Hid.mk' (And.intro p1 (And.intro p2 hb2));clear p1 p2 p3 hb2 HB2))
 go_big_quiet (fail)
 go_wp2
 refine bodyPost_ret (v := .tuple #[.slice none 0 0,.int .i64 1]) (by simp [results,Tryz.f34,go_sem]) rfl ?_
 have hbb:=HO.out.2.2.trans (HP.out.2.2.mono HO.out.2.2.size)
 exact ⟨_,_,rfl,.inr ⟨HNO.out,rfl,rfl⟩,hbb.trans (((Grown.refl w2).drewN _).below.mono hbb.size)⟩
theorem thrN_some {la lb:List Bk} {n k:Nat} (h:met (srcs lb) (rAt la (n+1))=some k):thrN la lb (n+1)=thrN la lb n++[upB (thrN la lb n) (sAt la (n+1)) (rAt lb k)]:=by
 rw [thrN,h]
theorem thrN_none {la lb:List Bk} {n:Nat} (h:met (srcs lb) (rAt la (n+1))=none):thrN la lb (n+1)=thrN la lb n:=by
 rw [thrN,h]
set_option maxHeartbeats 8000000 in
theorem through_good (a:Option Addr) (n c:Nat) (la:List Bk) (b:Option Addr) (m d:Nat) (lb:List Bk) (w:World) (ha:KR w (.slice a n c) la) (hb:KR w (.slice b m d) lb) (hn:la.length=n) (hm:lb.length=m) (hnb:n≤1000000) (hmb:m≤1000000) (hj1:Join la) (hj2:Join lb) (heq:rAt la la.length=sAt lb lb.length):Calls Tryz.prog 34 #[.slice a n c,.slice b m d] w (ThQ w la lb):=by
 have HB1:=Hid.mk' (borders_any _ la w ha (by omega))
 have HK:=Hid.mk' hb
 have HM:=Hid.mk' hm
 obtain ⟨N,hN⟩:∃ N,(bS la).length=N:=⟨_,rfl⟩
 obtain ⟨M,hM⟩:∃ M,(bS lb).length=M:=⟨_,rfl⟩
 have hN':(bR la).length=N:=(b_len la).1.symm.trans hN
 have hM':(bR lb).length=M:=(b_len lb).1.symm.trans hM
 clear ha hb
 have hNn:N=n+1:=by rw [←hN];unfold bS;rw [if_pos hj1,srcs_len,hn]
 have hMm:M=m+1:=by rw [←hM];unfold bS;rw [if_pos hj2,srcs_len,hm]
 obtain ⟨x,hx⟩:∃ x,(bR la).getD n 0=x:=⟨_,rfl⟩
 obtain ⟨y,hy⟩:∃ y,(bS lb).getD m 0=y:=⟨_,rfl⟩
 have hxr:rAt la la.length=x:=by rw [←hx,hn];unfold rAt bR;rw [if_pos hj1]
 have hyr:sAt lb lb.length=y:=by rw [←hy,hm];unfold sAt bS;rw [if_pos hj2]
 have hzN:¬ (N:Int)=0:=by omega
 have hbN:((N:Int) == 0)=false:=by simp;omega
 have hzM:¬ (M:Int)=0:=by omega
 have hbM:((M:Int) == 0)=false:=by simp;omega
 have hN1:(N:Int) - 1=(n:Int):=by omega
 have hM1:(M:Int) - 1=(m:Int):=by omega
 have hnN:(n:Int)<(N:Int):=by omega
 have hmM:(m:Int)<(M:Int):=by omega
 have hnI:(n:Int)≤1000000:=by omega
 have hmI:(m:Int)≤1000000:=by omega
 have HNN:Hid (n<(bR la).length∧n<(bS la).length∧m<(bS lb).length∧m<(bR lb).length∧N=n+1∧M=m+1):=⟨by omega,by omega,by omega,by omega,hNn,hMm⟩
 clear hNn hMm
 have HOK:Hid (ThrOk la lb):=⟨hj1,hj2,heq⟩
 have HSA:Hid (bS la=srcs la∧bR la=ress la∧bS lb=srcs lb∧bR lb=ress lb∧Rise (bS lb)):=⟨by unfold bS;rw [if_pos hj1],by unfold bR;rw [if_pos hj1],by unfold bS;rw [if_pos hj2],by unfold bR;rw [if_pos hj2],bS_rise lb⟩
 have HLA:Hid (la.length=n∧lb.length=m):=⟨hn,hm⟩
 rw [hxr,hyr] at heq
 have heq:=heq.symm
 subst heq
 clear hxr hyr
 go_enter Tryz.func34,Tryz.ntmps34
 go_wp2_with (go_at_call 31;first | (refine HB1.out.mono ?_;rintro e w1 ⟨sv,rv,rfl,o1,o2,o3,hb1⟩;obtain ⟨sa,sc,hs⟩:=o1.sl;obtain ⟨ra,rc,hr⟩:=o2.sl;rw [hN] at hs;rw [hN'] at hr;subst hs;subst hr;have HO:=Hid.mk' (And.intro o1 (And.intro o2 hb1));have HB2:=Hid.mk' (borders_any _ lb w1 (HK.out.below hb1 (Nat.le_refl _)) (by have:=HM.out;omega));clear o1 o2 o3 hb1 HB1) | (refine HB2.out.mono ?_;rintro e w2 ⟨tv,xv,rfl,p1,p2,p3,hb2⟩;obtain ⟨ta,tc,hs⟩:=p1.sl;obtain ⟨xa,xc,hr⟩:=p2.sl;rw [hM] at hs;rw [hM'] at hr;subst hs;subst hr;obtain ⟨rg,ro,hra,c1⟩:=ir_cell (HO.out.2.1.ir.below hb2 (Nat.le_refl _)) (j:=n) HNN.out.1;subst hra;obtain ⟨tg,tq,hta,c2⟩:=ir_cell p1.ir (j:=m) HNN.out.2.2.1;subst hta;obtain ⟨sg,sq,hsa,_⟩:=ir_cell (HO.out.1.ir) (j:=n) HNN.out.2.1;subst hsa;obtain ⟨xg,xq,hxa,_⟩:=ir_cell p2.ir (j:=m) HNN.out.2.2.2.1;subst hxa;rw [hx] at c1;rw [hy] at c2;have HP:=Hid.mk' (And.intro p1 (And.intro p2 hb2));clear p1 p2 p3 hb2 HB2))
 go_big_quiet (fail)
 have hbb:Hid (Below w.heap.size w w2):=HO.out.2.2.trans (HP.out.2.2.mono HO.out.2.2.size)
 have hNI:(N:Int)≤1000001:=by have:=HNN.out.2.2.2.2.1;omega
 have hMI:(M:Int)≤1000001:=by have:=HNN.out.2.2.2.2.2;omega
 have HO2:Hid (IR w2 (.slice (some ⟨sg,sq,none⟩) N sc) (bS la)∧IR w2 (.slice (some ⟨rg,ro,none⟩) N rc) (bR la)):=⟨HO.out.1.ir.below HP.out.2.2 (Nat.le_refl _),HO.out.2.1.ir.below HP.out.2.2 (Nat.le_refl _)⟩
 clear c1 c2
 go_wp2
 go_loopg [10,11] N (fun q s10 s11 wr=>∃ (i:Nat) (oa:Option Addr) (L oc:Nat),s10 = .slice oa L oc∧s11 = .int .i64 (i:Int)∧1≤i∧i≤N∧N - i≤q∧L≤i∧Hid (OwnK wr w2.heap.size (.slice oa L oc) (thrN la lb (i - 1))∧(thrN la lb (i - 1)).length=L∧Below w2.heap.size w2 wr))
 case atStart=>exact ⟨1,none,0,0,rfl,rfl,by omega,by omega,by omega,by omega,OwnK.nil _ _,rfl,((Grown.refl w2).drewN _).below⟩
 case round=>
  obtain ⟨i,oa,L,oc,rfl,rfl,hi1,hi2,hi3,hLi,HR⟩:=hrel
  have hiI:(i:Int)≤1000001:=by omega
  by_cases hil:i<N
  · have hilI:(i:Int)<(N:Int):=by omega
    obtain ⟨r1,r2,r3⟩:=HR.out
    obtain ⟨_,_,ee,k1⟩:=ir_cell (HO2.out.2.below r3 (Nat.le_refl _)) (j:=i) (by rw [hN'];exact hil)
    injection ee with ee
    injection ee with e1 e2 _
    subst e1
    subst e2
    obtain ⟨_,_,ee,k2⟩:=ir_cell (HO2.out.1.below r3 (Nat.le_refl _)) (j:=i) (by rw [hN];exact hil)
    injection ee with ee
    injection ee with e1 e2 _
    subst e1
    subst e2
    obtain ⟨t,ht⟩:∃ t,(bR la).getD i 0=t:=⟨_,rfl⟩
    obtain ⟨s,hs⟩:∃ s,(bS la).getD i 0=s:=⟨_,rfl⟩
    rw [ht] at k1
    rw [hs] at k2
    have HTS:Hid (rAt la i=t∧sAt la i=s):=by
     refine ⟨?_,?_⟩
     · rw [←ht,HSA.out.2.1];rfl
     · rw [←hs,HSA.out.1];rfl
    have HS:=Hid.mk' (search_walk (some ⟨tg,tq,none⟩) M tc (bS lb) t wr ((HP.out.1.ir).below r3 (Nat.le_refl _)) hM (by omega) HSA.out.2.2.2.2)
    clear r1 r2 r3 ht hs
    go_wp2_with (go_at_call 52;refine HS.out.mono ?_;rintro e w' ⟨k,f,rfl,hi,hlo,hhi,hf,hx⟩;have hx:=hx.symm;subst hx;have HI:=Hid.mk' (And.intro hi (And.intro hlo (And.intro hhi hf)));clear hi hlo hhi hf;cases f)
    · go_roundg (N - (i+1))
      case measure=>omega
      case rel=>
       obtain ⟨r1,r2,r3⟩:=HR.out
       obtain ⟨q1,q2,q3,q4⟩:=HI.out
       have hmn:met (srcs lb) (rAt la (i - 1+1))=none:=by
        rw [Nat.sub_add_cancel hi1,HTS.out.1,←HSA.out.2.2.1]
        exact met_none HSA.out.2.2.2.2 q2 q3 (fun h=>by have:=q4.2 h;cases this)
       have hth:=thrN_none hmn
       rw [Nat.sub_add_cancel hi1] at hth
       exact ⟨i+1,oa,L,oc,rfl,rfl,by omega,by omega,Nat.le_refl _,by omega,by rw [Nat.add_sub_cancel,hth];exact r1,by rw [Nat.add_sub_cancel,hth];exact r2,r3⟩
    · have hkM:k<M:=by
       obtain ⟨h1,_⟩:=HI.out.2.2.2.1 (by first | exact trivial | rfl)
       rw [hM] at h1
       exact h1
      have hkI:(k:Int)≤1000001:=by omega
      have hkMI:(k:Int)<(M:Int):=by omega
      obtain ⟨r1,r2,r3⟩:=HR.out
      obtain ⟨_,_,ee,k3⟩:=ir_cell (HP.out.2.1.ir.below r3 (Nat.le_refl _)) (j:=k) (by rw [hM'];exact hkM)
      injection ee with ee
      injection ee with e1 e2 _
      subst e1
      subst e2
      obtain ⟨z,hz⟩:∃ z,(bR lb).getD k 0=z:=⟨_,rfl⟩
      rw [hz] at k3
      have HZ:Hid (rAt lb k=z):=by show _=_;rw [←hz,HSA.out.2.2.2.1];rfl
      have HU:Hid (∀ V,Grown wr V→Calls Tryz.prog 39 #[.slice oa L oc,.int .i64 s,.int .i64 z] V fun e w'=>∃ gg cap,e = .returned (.slice (some ⟨gg,0,none⟩) (L+1) cap)∧OwnK w' w2.heap.size (.slice (some ⟨gg,0,none⟩) (L+1) cap) (thrN la lb (i - 1)++[upB (thrN la lb (i - 1)) s z])∧Fr V w' (fun k=>(Value.slice oa L oc).ownBlock=some k)∧(some gg=(Value.slice oa L oc).ownBlock∨V.heap.size≤gg)):=fun V hg=>upTo_walk oa L oc _ s z w2.heap.size V (own_fr r1 (fr_grown hg (fun _=>False)) fun _ _ e=>e) r2 (by omega) (by have:=r3.size;have:=hg.size;omega)
      clear r1 r2 r3 hz
      refine wp_region_inv2 mixed (by kernel_rfl) (by kernel_rfl) (by kernel_rfl) (JC dep_valTh (valTh (.slice oa L oc) (.slice (some ⟨sg,sq,none⟩) N sc) (.slice (some ⟨xg,xq,none⟩) M xc) i k sg (sq+i) xg (xq+k) s z) (fun _ v=>v) 9 wr.drew (ThR wr w2.heap.size (.slice oa L oc) L (thrN la lb (i - 1)) s z)) (JC.start _ _ _ _ _ _) ⟨?_,?_,?_,?_,?_,?_,?_,?_,?_,?_,?_,trivial⟩ ?_
      · as_aux_lemma=>
         intro aA wx p vs hJ hdep hpi hval hfr K hK
         rw [if_pos (show Region.wanted _ _=true from rfl)]
         have zd0:aA.tmps.getD 10 undef = .slice oa L oc:=hfr 10 (ndst1 10 (by kernel_rfl) ((hJ.n (hJ.nS 0 (by decide) hpi)).2 10 (by decide)))
         have hW:=hJ.same 0 (by decide) hpi
         subst hW
         have hJ':=hJ.pure 0 (by decide) hpi rfl (dep_all hdep (by kernel_rfl))
         clear hval hfr hdep hJ
         simp only [Array.getD_eq_getD_getElem?] at zd0
         go_simp
         exact hK _ _ hJ'
      · as_aux_lemma=>
         intro aA wx p vs hJ hdep hpi hval hfr K hK
         rw [if_pos (show Region.wanted _ _=true from rfl)]
         have zd0:aA.tmps.getD 6 undef = .slice (some ⟨sg,sq,none⟩) N sc:=hfr 6 (ndst (by kernel_rfl))
         have hW:=hJ.same 1 (by decide) hpi
         subst hW
         have hJ':=hJ.pure 1 (by decide) hpi rfl (dep_all hdep (by kernel_rfl))
         clear hval hfr hdep hJ
         simp only [Array.getD_eq_getD_getElem?] at zd0
         go_simp
         exact hK _ _ hJ'
      · as_aux_lemma=>
         intro aA wx p vs hJ hdep hpi hval hfr K hK
         rw [if_pos (show Region.wanted _ _=true from rfl)]
         have zd0:aA.tmps.getD 11 undef = .int .i64 (i:Int):=hfr 11 (ndst (by kernel_rfl))
         have hW:=hJ.same 2 (by decide) hpi
         subst hW
         have hJ':=hJ.pure 2 (by decide) hpi rfl (dep_all hdep (by kernel_rfl))
         clear hval hfr hdep hJ
         simp only [Array.getD_eq_getD_getElem?] at zd0
         go_simp
         exact hK _ _ hJ'
      · as_aux_lemma=>
         intro aA wx p vs hJ hdep hpi hval hfr K hK
         rw [if_pos (show Region.wanted _ _=true from rfl)]
         have zd0:aA.tmps.getD 64 undef = .slice (some ⟨sg,sq,none⟩) N sc:=(hval 1 _ 64 (hdep 1 (by kernel_rfl)) (by rfl) rfl).trans (hJ.v 1 _ (by decide) rfl (hdep 1 (by kernel_rfl)))
         have zd1:aA.tmps.getD 65 undef = .int .i64 (i:Int):=(hval 2 _ 65 (hdep 2 (by kernel_rfl)) (by rfl) rfl).trans (hJ.v 2 _ (by decide) rfl (hdep 2 (by kernel_rfl)))
         have hW:=hJ.same 3 (by decide) hpi
         subst hW
         have hJ':=hJ.pure 3 (by decide) hpi rfl (dep_all hdep (by kernel_rfl))
         clear hval hfr hdep hJ
         simp only [Array.getD_eq_getD_getElem?] at zd0 zd1
         go_simp
         exact hK _ _ hJ'
      · as_aux_lemma=>
         intro aA wx p vs hJ hdep hpi hval hfr K hK
         rw [if_pos (show Region.wanted _ _=true from rfl)]
         have zd0:aA.tmps.getD 66 undef = .pointer (some ⟨sg,sq+i,none⟩):=(hval 3 _ 66 (hdep 3 (by kernel_rfl)) (by rfl) rfl).trans (hJ.v 3 _ (by decide) rfl (hdep 3 (by kernel_rfl)))
         have hW:=hJ.same 4 (by decide) hpi
         subst hW
         have hJ':=hJ.pure 4 (by decide) hpi rfl (dep_all hdep (by kernel_rfl))
         clear hval hfr hdep hJ
         simp only [Array.getD_eq_getD_getElem?] at zd0
         have hc:=k2
         go_simp
         exact hK _ _ hJ'
      · as_aux_lemma=>
         intro aA wx p vs hJ hdep hpi hval hfr K hK
         rw [if_pos (show Region.wanted _ _=true from rfl)]
         have zd0:aA.tmps.getD 9 undef = .slice (some ⟨xg,xq,none⟩) M xc:=hfr 9 (ndst (by kernel_rfl))
         have hW:=hJ.same 5 (by decide) hpi
         subst hW
         have hJ':=hJ.pure 5 (by decide) hpi rfl (dep_all hdep (by kernel_rfl))
         clear hval hfr hdep hJ
         simp only [Array.getD_eq_getD_getElem?] at zd0
         go_simp
         exact hK _ _ hJ'
      · as_aux_lemma=>
         intro aA wx p vs hJ hdep hpi hval hfr K hK
         rw [if_pos (show Region.wanted _ _=true from rfl)]
         have zd0:aA.tmps.getD 12 undef = .int .i64 (k:Int):=hfr 12 (ndst (by kernel_rfl))
         have hW:=hJ.same 6 (by decide) hpi
         subst hW
         have hJ':=hJ.pure 6 (by decide) hpi rfl (dep_all hdep (by kernel_rfl))
         clear hval hfr hdep hJ
         simp only [Array.getD_eq_getD_getElem?] at zd0
         go_simp
         exact hK _ _ hJ'
      · as_aux_lemma=>
         intro aA wx p vs hJ hdep hpi hval hfr K hK
         rw [if_pos (show Region.wanted _ _=true from rfl)]
         have zd0:aA.tmps.getD 68 undef = .slice (some ⟨xg,xq,none⟩) M xc:=(hval 5 _ 68 (hdep 5 (by kernel_rfl)) (by rfl) rfl).trans (hJ.v 5 _ (by decide) rfl (hdep 5 (by kernel_rfl)))
         have zd1:aA.tmps.getD 69 undef = .int .i64 (k:Int):=(hval 6 _ 69 (hdep 6 (by kernel_rfl)) (by rfl) rfl).trans (hJ.v 6 _ (by decide) rfl (hdep 6 (by kernel_rfl)))
         have hW:=hJ.same 7 (by decide) hpi
         subst hW
         have hJ':=hJ.pure 7 (by decide) hpi rfl (dep_all hdep (by kernel_rfl))
         clear hval hfr hdep hJ
         simp only [Array.getD_eq_getD_getElem?] at zd0 zd1
         go_simp
         exact hK _ _ hJ'
      · as_aux_lemma=>
         intro aA wx p vs hJ hdep hpi hval hfr K hK
         rw [if_pos (show Region.wanted _ _=true from rfl)]
         have zd0:aA.tmps.getD 70 undef = .pointer (some ⟨xg,xq+k,none⟩):=(hval 7 _ 70 (hdep 7 (by kernel_rfl)) (by rfl) rfl).trans (hJ.v 7 _ (by decide) rfl (hdep 7 (by kernel_rfl)))
         have hW:=hJ.same 8 (by decide) hpi
         subst hW
         have hJ':=hJ.pure 8 (by decide) hpi rfl (dep_all hdep (by kernel_rfl))
         clear hval hfr hdep hJ
         simp only [Array.getD_eq_getD_getElem?] at zd0
         have hc:=k3
         go_simp
         exact hK _ _ hJ'
      · as_aux_lemma=>
         intro aA wx p vs hJ hdep hpi hval hfr K hK
         rw [if_pos (show Region.wanted _ _=true from rfl)]
         have zd0:aA.tmps.getD 63 undef = .slice oa L oc:=(hval 0 _ 63 (hdep 0 (by kernel_rfl)) (by rfl) rfl).trans (hJ.v 0 _ (by decide) rfl (hdep 0 (by kernel_rfl)))
         have zd1:aA.tmps.getD 67 undef = .int .i64 s:=(hval 4 _ 67 (hdep 4 (by kernel_rfl)) (by rfl) rfl).trans (hJ.v 4 _ (by decide) rfl (hdep 4 (by kernel_rfl)))
         have zd2:aA.tmps.getD 71 undef = .int .i64 z:=(hval 8 _ 71 (hdep 8 (by kernel_rfl)) (by rfl) rfl).trans (hJ.v 8 _ (by decide) rfl (hdep 8 (by kernel_rfl)))
         have hW:=(hJ.n hpi).1
         subst hW
         have hp0:=hdep 0 (by kernel_rfl)
         have hp4:=hdep 4 (by kernel_rfl)
         have hp8:=hdep 8 (by kernel_rfl)
         have hp3:=hJ.c 4 3 (by decide) (by decide) hp4
         have hp7:=hJ.c 8 7 (by decide) (by decide) hp8
         have hp1:=hJ.c 3 1 (by decide) (by decide) hp3
         have hp2:=hJ.c 3 2 (by decide) (by decide) hp3
         have hp5:=hJ.c 7 5 (by decide) (by decide) hp7
         have hp6:=hJ.c 7 6 (by decide) (by decide) hp7
         have hJ':=fun x W' hr=>hJ.called (x:=x) (W':=W') hpi (fun k hk=>by have h0:k<9:=hk;match k,h0 with | 0,_=>exact hp0 | 1,_=>exact hp1 | 2,_=>exact hp2 | 3,_=>exact hp3 | 4,_=>exact hp4 | 5,_=>exact hp5 | 6,_=>exact hp6 | 7,_=>exact hp7 | 8,_=>exact hp8 | k+9,h=>omega) hr
         clear hval hfr hdep hJ hp0 hp1 hp2 hp3 hp4 hp5 hp6 hp7 hp8
         simp only [Array.getD_eq_getD_getElem?] at zd0 zd1 zd2
         have hKK:=Hid.mk' hK
         clear hK
         go_simp
         go_at_call 39
         refine (HU.out _ (Grown.refl wr).drew).mono ?_
         rintro e w3 ⟨gg,cap,rfl,u1,u2,u3⟩
         exact hKK.out _ _ (hJ' _ _ ⟨gg,cap,rfl,u1,(fr_grown (Grown.refl wr).drew _).trans u2 fun _ _ e=>e⟩)
      · as_aux_lemma=>
         intro aA wx p vs hJ hdep hpi hval hfr K hK
         rw [if_pos (show Region.wanted _ _=true from rfl)]
         have zd0:aA.tmps.getD 72 undef=vs 9:=hval 9 _ 72 (hdep 9 (by kernel_rfl)) (by rfl) rfl
         have hJ':=hJ.after 10 (by decide) (hdep 9 (by kernel_rfl))
         have hR:=(hJ.s (hdep 9 (by kernel_rfl))).2
         clear hval hfr hdep hJ
         simp only [Array.getD_eq_getD_getElem?] at zd0
         go_simp
         exact hK _ _ hJ'
      · intro vs W hJ
        rw [putL_eq]
        simp only [putsL,List.set_cons_zero,List.set_cons_succ,Nat.zero_add,Nat.reduceAdd]
        obtain ⟨gg,cap,hv9,u1,u2⟩:=(hJ.s rfl).2
        have hv10:vs 10=vs 9:=hJ.a 10 (by decide) rfl
        rw [hv10,hv9]
        have HUU:=Hid.mk' (And.intro u1 u2)
        clear hJ hv9 hv10 u1 u2 k1 k2 k3
        generalize vs 0=y0
        generalize vs 1=y1
        generalize vs 2=y2
        generalize vs 3=y3
        generalize vs 4=y4
        generalize vs 5=y5
        generalize vs 6=y6
        generalize vs 7=y7
        generalize vs 8=y8
        go_wp2
        go_roundg (N - (i+1))
        case measure=>omega
        case rel=>
         obtain ⟨u1,u2⟩:=HUU.out
         obtain ⟨r1,r2,r3⟩:=HR.out
         obtain ⟨q1,q2,q3,q4⟩:=HI.out
         have hmn:met (srcs lb) (rAt la (i - 1+1))=some k:=by
          rw [Nat.sub_add_cancel hi1,HTS.out.1,←HSA.out.2.2.1]
          exact met_some q2 (q4.1 (by first | exact trivial | rfl))
         have hth:=thrN_some hmn
         rw [Nat.sub_add_cancel hi1,HTS.out.2,HZ.out] at hth
         refine ⟨i+1,some ⟨gg,0,none⟩,L+1,cap,rfl,rfl,by omega,by omega,Nat.le_refl _,by omega,by rw [Nat.add_sub_cancel,hth];exact u1,by rw [Nat.add_sub_cancel,hth,List.length_append,r2];rfl,r3.trans (u2.below (fun k hk=>(World.ownsRow.lt r1 k hk).1) r3.size)⟩
  · have hie:i=N:=by omega
    subst hie
    go_wp2
    refine bodyPost_ret (v := .tuple #[.slice oa L oc,.int .i64 0]) (by simp [results,Tryz.f34,go_sem]) rfl ?_
    obtain ⟨r1,r2,r3⟩:=HR.out
    refine ⟨_,_,rfl,.inl ⟨HOK.out,rfl,?_⟩,hbb.out.trans (r3.mono hbb.out.size)⟩
    have h1:=HNN.out.2.2.2.2.1
    rw [HLA.out.1]
    have hb':=hbb.out.size
    rw [h1,Nat.add_sub_cancel] at r1
    exact Joins.ownsRow_le r1 hb'
theorem through_any (u v:Value) (la lb:List Bk) (w:World) (ha:KR w u la) (hb:KR w v lb) (hn:la.length≤1000000) (hm:lb.length≤1000000):Calls Tryz.prog 34 #[u,v] w (ThQ w la lb):=by
 have ha':=ha
 have hb':=hb
 obtain ⟨a,c,rfl,_⟩:=ha
 obtain ⟨b,d,rfl,_⟩:=hb
 by_cases h1:Join la
 · by_cases h2:Join lb
   · by_cases h3:rAt la la.length=sAt lb lb.length
     · exact through_good a _ c la b _ d lb w ha' hb' rfl rfl hn hm h1 h2 h3
     · exact through_badC a _ c la b _ d lb w ha' hb' rfl rfl hn hm h1 h2 h3
   · exact through_badB a _ c la b _ d lb w ha' hb' rfl rfl hn hm h1 h2
 · exact through_badA a _ c la b _ d lb w ha' hb' rfl rfl hn hm h1
def brd (l:List Bk):List (Int × Int):=l.map fun b=>(b.2.1,b.2.2.2)
theorem kbs_cells {w:World} {g o:Nat} {b:List Bk} (h:∀ (j:Nat) (hj:j<b.length),KAt w g (o+j*4) b[j]) {i:Nat} {u:Value} (hu:(kbs b)[i]? = some u):w.cell? ⟨g,o+i,none⟩=some u:=by
 have hi:i<b.length*4:=by rw [←kbs_len];exact (List.getElem?_eq_some_iff.1 hu).1
 have hj:i / 4<b.length:=by omega
 have h4:i % 4<4:=Nat.mod_lt _ (by decide)
 have e:i=i / 4*4+i % 4:=by omega
 have hu':=hu
 rw [e,kbs_at b hj _ h4] at hu'
 obtain ⟨k0,k1,k2,k3⟩:=h _ hj
 have hc:i % 4=0∨i % 4=1∨i % 4=2∨i % 4=3:=by omega
 rcases hc with c | c | c | c <;> rw [c] at hu' e
 · have:o+i=o+i / 4*4:=by omega
   rw [this,k0];exact hu'
 · have:o+i=o+i / 4*4+1:=by omega
   rw [this,k1];exact hu'
 · have:o+i=o+i / 4*4+2:=by omega
   rw [this,k2];exact hu'
 · have:o+i=o+i / 4*4+3:=by omega
   rw [this,k3];exact hu'
theorem app_K {ops:Array Oper} {rest:List Oper} {o:Oper} {a:Act} {Q:Exit→Act→World→Prop} {w:World} (hgd:o.guard=none) (s x:Operand)
 (ho:o.op = .call { callee := .builtin .append,args:=#[s,x],argTypes:=#[32,32] })
 (base:Nat) (v:Value) (l b k:List Bk) (hk:l++b=k) (hs:a.eval s=v) (hown:OwnK w base v l) (hv:v ≠ .slice none 0 0) (ad:Addr) (m c:Nat) (hx:a.eval x = .slice (some ad) m c)
 (hr:KR w (.slice (some ad) m c) b) (hl:l.length+b.length≤1000000000) (hbase:base≤w.heap.size)
 (h:∀ g N cap w',N=k.length→OwnK w' base (.slice (some ⟨g,0,none⟩) N cap) k→w.grownBy w' v.ownBlock→wpList Tryz.prog ops Q rest (a.put o.dst (.slice (some ⟨g,0,none⟩) N cap)) w'):wpList Tryz.prog ops Q (o::rest) a w:=by
 subst hk
 obtain ⟨i0,hi,hz0,hz1,hz2⟩:=info_parts infoK
 obtain ⟨a',c',e,_,hb⟩:=hr
 injection e with e1 e2 e3
 subst e2
 refine wpList_append_own w hgd s x 32 ho base 44 i0 (.agg #[.int .i64 0,.int .i64 0,.int .i64 0,.int .i64 0]) 4 32 Tryz.underlying32 hi hz0 hz1 hz2 rfl (by decide) v l.length (kbs l) hs hown ad b.length c (kbs b) hx (kbs_len b) ?_ (kbs_one b) (by unfold maxLen;omega) (by omega) hbase (fun v' w' h2 h3 h4 => ?_)
 · intro j u hj
   rcases hb with hb | ⟨g,o',e2,hR⟩
   · subst hb;simp [kbs] at hj
   · rw [e2] at e1
     injection e1 with e1
     subst e1
     have hadd:(⟨g,o',none⟩:Addr).add j=⟨g,o'+j,none⟩:=by unfold Addr.add;split <;> simp_all
     rw [hadd]
     exact kbs_cells hR hj
 · have hO:OwnK w' base v' (l++b):=by
    unfold OwnK
    rw [List.length_append,kbs_append];exact h2
   rcases hO.2 with ⟨e,_⟩ | ⟨g,cap,cur,e,_,_,hcp,_⟩
   · exact absurd (h4.1 e).1 hv
   · subst e
     exact h g _ cap w' rfl hO h3
theorem own_emptyK (w:World):OwnK (w.alloc (.cells #[] 44)) w.heap.size (.slice (some ⟨w.heap.size,0,none⟩) 0 0) []:=by
 refine ⟨by decide,.inr ⟨w.heap.size,0,#[],rfl,Nat.le_refl _,heap_alloc_new _ _,Nat.le_refl _,by decide,rfl,rfl⟩⟩
def LK (W:World) (base:Nat) (ov:Value) (l:List Bk):Prop:=∃ g cap,ov = .slice (some ⟨g,0,none⟩) l.length cap∧l.length+2≤cap∧OwnK W base (.slice (some ⟨g,0,none⟩) (l.length+2) cap) (l++[(-77,0,0,0),(0,0,0,-78)])
theorem LK.below {W W':World} {base n:Nat} {ov:Value} {l:List Bk} (h:LK W base ov l) (hb:Below n W W') (hn:W.heap.size≤n):LK W' base ov l:=by
 obtain ⟨g,cap,h1,h2,h3⟩:=h
 exact ⟨g,cap,h1,h2,h3.below hb hn⟩
theorem LK.kr {W:World} {base:Nat} {ov:Value} {l:List Bk} (h:LK W base ov l):KR W ov l:=by
 obtain ⟨g,cap,rfl,h2,h3⟩:=h
 obtain ⟨a',c',e,h4,h5⟩:=h3.kr
 injection e with e1 e2 e3
 refine ⟨_,cap,rfl,by omega,?_⟩
 rcases h5 with h5 | ⟨g',o',e4,h5⟩
 · have:=congrArg List.length h5;simp at this
 · rw [←e1] at e4
   refine .inr ⟨g',o',e4,fun j hj => ?_⟩
   have:=h5 j (by simp;omega)
   rw [List.getElem_append_left hj] at this
   exact this
theorem kr_two {W:World} {g:Nat} (h:W.heap[g]? = some (.cells #[.int .i64 (-77),.int .i64 0,.int .i64 0,.int .i64 0,.int .i64 0,.int .i64 0,.int .i64 0,.int .i64 (-78)] 44 (0,0))):KR W (.slice (some ⟨g,0,none⟩) 2 2) [(-77,0,0,0),(0,0,0,-78)]:=⟨_,2,rfl,Nat.le_refl _,.inr ⟨g,0,rfl,fun j hj=>by
      have:j=0∨j=1:=by simp at hj;omega
      rcases this with rfl | rfl <;> (refine ⟨?_,?_,?_,?_⟩ <;> (rw [cell_of h];rfl))⟩⟩
theorem own_capK {W:World} {base g N c:Nat} {k:List Bk} (h:OwnK W base (.slice (some ⟨g,0,none⟩) N c) k):k.length≤c:=by
 rcases h.2 with ⟨e,_⟩ | ⟨_,_,_,e,_,_,h1,_⟩
 · cases e
 · injection e with _ e2 e3
   omega
theorem kr_len {w:World} {a:Option Addr} {n c:Nat} {l:List Bk} (h:KR w (.slice a n c) l):n=l.length:=by
 obtain ⟨a',c',e,_,_⟩:=h
 injection e with e1 e2 e3
set_option maxHeartbeats 4000000 in
theorem lent_some (ad:Addr) (n c:Nat) (l:List Bk) (w:World) (hr:KR w (.slice (some ad) n c) l) (hl:l.length=n) (hn:n≤1000000) :
 Calls Tryz.prog 10 #[.slice (some ad) n c] w fun e w'=>∃ ov,e = .returned ov∧LK w' w.heap.size ov l∧Below w.heap.size w w':=by
 have HN:Hid (l.length=n):=hl
 have HR:Hid (∀ ob,KR (w.alloc ob) (.slice (some ad) n c) l):=fun ob=>hr.grown ((Grown.refl _).alloc ob)
 have hnI:(n:Int)≤1000000:=by omega
 have hn0:(0:Int)≤(n:Int):=by omega
 clear hr hl
 go_enter Tryz.func10,Tryz.ntmps10
 go_wp2_with (at_builtin;go_must (first
  | (refine app_K rfl _ _ rfl w.heap.size _ [] l l rfl rfl (own_emptyK w) (by intro e;cases e) ad n c rfl (HR.out _) (by rw [HN.out];simp;omega) (by simp) ?_;intro g1 N1 c1 w1 hN1 hO1 hB1;rw [HN.out] at hN1;obtain rfl:n=N1:=hN1.symm)
  | (refine app_K rfl _ _ rfl w.heap.size (.slice (some ⟨g1,0,none⟩) n c1) l [(-77,0,0,0),(0,0,0,-78)] (l++[(-77,0,0,0),(0,0,0,-78)]) rfl rfl (World.ownsRow.alloc hO1 _) (by intro e;cases e) ⟨w1.heap.size,0,none⟩ 2 2 rfl (kr_two (heap_alloc_new _ _)) (by rw [HN.out];simp;omega) (by have:=hB1.size;simp at this;simp;omega) ?_;intro g2 N2 c2 w2 hN2 hO2 hB2;have hcc:=own_capK hO2;rw [List.length_append,HN.out] at hN2 hcc;obtain rfl:N2=n+2:=hN2;have hcI:(n:Int)≤(c2:Int):=Int.ofNat_le.2 (Nat.le_trans (Nat.le_add_right _ _) hcc))))
 go_ret
 refine ⟨_,rfl,⟨g2,c2,by rw [HN.out];rfl,by rw [HN.out];exact hcc,by rw [HN.out];exact hO2⟩,?_⟩
 have f1:Fr w w1 (fun k=>k=w.heap.size):=((fr_grown ((Grown.refl w).alloc _) _).trans (fr_by hB1) fun _ _ e=>by have e:some w.heap.size=some _:=e;injection e with e;exact e.symm)
 have f2:Fr w1 w2 (fun k=>k=g1):=((fr_grown ((Grown.refl w1).alloc _) _).trans (fr_by hB2) fun _ _ e=>by have e:some g1=some _:=e;injection e with e;exact e.symm)
 have hg1:=(World.ownsRow.lt hO1 g1 rfl).1
 have b1:=f1.below (base:=w.heap.size) (fun k e=>by have e:k=w.heap.size:=e;omega) (Nat.le_refl _)
 exact b1.trans (f2.below (fun k e=>by have e:k=g1:=e;omega) b1.size)
theorem app_no {ops:Array Oper} {rest:List Oper} {o:Oper} {ac:Act} {Q:Exit→Act→World→Prop} {w:World} (hgd:o.guard=none) (s x:Operand)
 (ho:o.op = .call { callee := .builtin .append,args:=#[s,x],argTypes:=#[32,32] }) (g:Nat) (hs:ac.eval s = .slice (some ⟨g,0,none⟩) 0 0) (hx:ac.eval x = .slice none 0 0)
 (h:wpList Tryz.prog ops Q rest (ac.put o.dst (.slice (some ⟨g,0,none⟩) 0 0)) w):wpList Tryz.prog ops Q (o::rest) ac w:=by
 refine wpList_plain hgd fun K hK => ?_
 obtain ⟨i0,hi0,hz0,hz1,hz2⟩:=info_parts infoK
 have hr2:=run_append_nothing (P:=Tryz.prog) w 32 32 o.type 44 i0 Tryz.underlying32 hi0 (some ⟨g,0,none⟩) 0 0 (Nat.le_refl _) (.slice none 0 0) ⟨.inl ⟨44,Tryz.underlying32⟩,fun w'=>by simp [Builtin.lenOf,go_sem],by simp [Builtin.firstCells,go_sem],by simp [Builtin.firstCells,go_sem],by simp,by simp⟩
 unfold Oper.wp execOp
 simp only [ho,resolve,invoke,builtin,Sem.run_bind,Sem.run_pure,Result.andThen_ok,List.map_toArray,List.map_cons,List.map_nil,hs,hx,hr2]
 exact hK _ _ h
set_option maxHeartbeats 4000000 in
theorem lent_nil (w:World):Calls Tryz.prog 10 #[.slice none 0 0] w fun e w'=>∃ ov,e = .returned ov∧LK w' w.heap.size ov []∧Below w.heap.size w w':=by
 go_enter Tryz.func10,Tryz.ntmps10
 go_wp2_with (at_builtin;go_must (first
  | (refine app_no rfl _ _ rfl w.heap.size rfl rfl ?_)
  | (refine app_K rfl _ _ rfl w.heap.size (.slice (some ⟨w.heap.size,0,none⟩) 0 0) [] [(-77,0,0,0),(0,0,0,-78)] [(-77,0,0,0),(0,0,0,-78)] rfl rfl (World.ownsRow.alloc (own_emptyK w) _) (by intro e;cases e) ⟨w.heap.size+1,0,none⟩ 2 2 (by simp [go_sem]) (kr_two (by have:=heap_alloc_new (w.alloc (.cells #[] 44)) (.cells #[.int .i64 (-77),.int .i64 0,.int .i64 0,.int .i64 0,.int .i64 0,.int .i64 0,.int .i64 0,.int .i64 (-78)] 44);simpa using this)) (by decide) (by simp;omega) ?_;intro g2 N2 c2 w2 hN2 hO2 hB2;have hcc:=own_capK hO2;obtain rfl:N2=2:=hN2;have hcI:(0:Int)≤(c2:Int):=by omega)))
 go_ret
 have f2:Fr w w2 (fun k=>k=w.heap.size):=((fr_grown (((Grown.refl w).alloc _).alloc _) _).trans (fr_by hB2) fun _ _ e=>by have e:some w.heap.size=some _:=e;injection e with e;exact e.symm)
 exact ⟨_,rfl,⟨g2,c2,rfl,hcc,hO2⟩,f2.below (base:=w.heap.size) (fun k e=>by have e:k=w.heap.size:=e;omega) (Nat.le_refl _)⟩
theorem lent_any (v:Value) (l:List Bk) (w:World) (hr:KR w v l) (hN:v = .slice none 0 0∨∃ ad n c,v = .slice (some ad) n c) (hn:l.length≤1000000) :
 Calls Tryz.prog 10 #[v] w fun e w'=>∃ ov,e = .returned ov∧LK w' w.heap.size ov l∧Below w.heap.size w w':=by
 rcases hN with rfl | ⟨ad,n,c,rfl⟩
 · obtain rfl:l=[]:=List.eq_nil_of_length_eq_zero (kr_len hr).symm
   exact lent_nil w
 · obtain rfl:=kr_len hr
   exact lent_some ad _ c l w hr rfl hn
theorem KAt.of {w:World} {g o:Nat} {b:Bk} {L:List Bk} (h:∀ (j:Nat) (hj:j<L.length),KAt w g (o+j*4) L[j]) {j:Nat} (hj:L[j]? = some b):KAt w g (o+j*4) b:=by
 obtain ⟨hj',e⟩:=List.getElem?_eq_some_iff.1 hj
 subst e
 exact h j hj'
set_option maxHeartbeats 8000000 in
theorem still_any (ov:Value) (va:Option Addr) (n vc:Nat) (l:List Bk) (base:Nat) (w:World) (ho:LK w base ov l) (hv:KR w (.slice va n vc) l) (hl:l.length=n) (hn:n≤1000000) :
 Calls Tryz.prog 15 #[ov,.slice va n vc] w fun e w'=>e = .returned (.bool true)∧Below w.heap.size w w':=by
 have HK:=Hid.mk' ho.kr
 have HV:=Hid.mk' hv
 obtain ⟨g,cap,rfl,hc,hO⟩:=ho
 have HO:=Hid.mk' hO
 have HL:=Hid.mk' hl
 rw [hl] at hc HK
 simp only [hl] at hO ⊢
 obtain ⟨a',c',e,_,hr⟩:=hO.kr
 injection e with e1 e2 e3
 obtain ⟨g',o',e4,hr⟩:=hr.resolve_left (fun e=>by have:=congrArg List.length e;simp at this)
 rw [e4] at e1
 injection e1 with e1
 injection e1 with e1 e5
 subst e1
 subst e5
 obtain ⟨x0,x1,x2,x3⟩:=KAt.of hr (j:=n) (b:=(-77,0,0,0)) (by rw [←hl];simp)
 obtain ⟨y0,y1,y2,y3⟩:=KAt.of hr (j:=n+1) (b:=(0,0,0,-78)) (by rw [←hl];simp)
 simp only [Nat.zero_add] at x0 x1 x2 x3 y0 y1 y2 y3
 have hnI:(n:Int)≤1000000:=by omega
 have hn0:(0:Int)≤(n:Int):=by omega
 have hcI:(n:Int)+2≤(cap:Int):=by omega
 have hcI0:(n:Int)≤(cap:Int):=by omega
 have hlt:(n:Int)<(n:Int)+2:=by omega
 have hlt2:(n:Int)+1<(n:Int)+2:=by omega
 have HS:Hid (Calls Tryz.prog 24 #[.slice (some ⟨g,0,none⟩) n cap,.slice va n vc] w fun e w'=>e = .returned (.bool true)∧Grown w w'):=by
  have:=same_walk (some ⟨g,0,none⟩) n cap va n vc l l w HK.out HV.out HL.out HL.out hn
  exact Hid.mk' (by simpa using this)
 clear hO hr hv hl hc e2 e3 e4
 go_enter Tryz.func15,Tryz.ntmps15
 go_wp2_with (go_at_call 24;refine HS.out.mono ?_;rintro e w1 ⟨rfl,hg1⟩;have x0:=hg1.cellv x0;have x1:=hg1.cellv x1;have x2:=hg1.cellv x2;have x3:=hg1.cellv x3;have y0:=hg1.cellv y0;have y1:=hg1.cellv y1;have y2:=hg1.cellv y2;have y3:=hg1.cellv y3)
 go_ret
 exact ⟨rfl,hg1.below⟩
theorem rsx_at {W:World} {g:Nat} {a:Int} (h:W.heap[g]? = some (.cells #[.int .i64 a,.int .i64 a] 97 (0,0))):Rs W (.slice (some ⟨g,0,none⟩) 1 1) [(a,a)]:=by
 refine ⟨_,1,rfl,Nat.le_refl _,.inr ⟨g,0,rfl,fun j hj => ?_⟩⟩
 obtain rfl:j=0:=by simp at hj;omega
 rw [cell_of h,cell_of h]
 exact ⟨rfl,rfl⟩
theorem alloc_at {W:World} {o:Obj} {k:Nat} (h:k=W.heap.size):(W.alloc o).heap[k]? = some o:=by subst h;exact heap_alloc_new _ _
theorem alloc_up {W:World} {o ob:Obj} {k:Nat} (h:W.heap[k]? = some ob):(W.alloc o).heap[k]? = some ob:=(((Grown.refl W).alloc o).below.block k (blk_lt h)).trans h
def OwnP (w:World) (base:Nat) (v:Value) (l:List (Int × Int)):Prop:=w.ownsRow base 70 2 v l.length (fl l)
theorem fl_append (l k:List (Int × Int)):fl (l++k)=fl l++fl k:=by simp [fl]
theorem OwnP.rs {w:World} {base:Nat} {v:Value} {l:List (Int × Int)} (h:OwnP w base v l):Rs w v l:=by
 rcases h.2 with ⟨rfl,h0⟩ | ⟨g,cap,cur,rfl,_,_,hc,_⟩
 · have:l=[]:=List.eq_nil_of_length_eq_zero h0
   subst this
   exact ⟨none,0,rfl,Nat.le_refl _,.inl rfl⟩
 · refine ⟨_,cap,rfl,hc,.inr ⟨g,0,rfl,fun j hj => ?_⟩⟩
   have h1:=World.ownsRow.cells h rfl
   have:=fl_at l hj
   have a1:=h1 _ _ this.1
   have a2:=h1 _ _ this.2
   rw [add_zero_at] at a1 a2
   rw [Nat.zero_add]
   exact ⟨a1,a2⟩
theorem OwnP.form {w:World} {base:Nat} {v:Value} {l:List (Int × Int)} (h:OwnP w base v l):∃ a c,v = .slice a l.length c:=by
 rcases h.2 with ⟨e,h0⟩ | ⟨g,cap,cur,e,_⟩
 · exact ⟨none,0,by rw [e,h0]⟩
 · exact ⟨_,cap,e⟩
theorem OwnP.below {w w':World} {base n:Nat} {v:Value} {l:List (Int × Int)} (h:OwnP w base v l) (hb:Below n w w') (hn:w.heap.size≤n):OwnP w' base v l:=own_fr h (fr_below hb hn fun _=>False) fun _ _ e=>e
theorem info70:(Tryz.prog.info? 70).map (fun i=>(i.zero,i.size,i.bytes))=some (some (.agg #[.int .i64 0,.int .i64 0]),2,16):=by kernel_rfl
theorem own_oneP (w:World):OwnP (w.alloc (.cells #[.int .i64 0,.int .i64 0] 70)) w.heap.size (.slice (some ⟨w.heap.size,0,none⟩) 1 1) [(0,0)]:=by
 refine ⟨by decide,.inr ⟨w.heap.size,1,#[.int .i64 0,.int .i64 0],rfl,Nat.le_refl _,heap_alloc_new _ _,Nat.le_refl _,by decide,rfl,rfl⟩⟩
theorem step_P {ops:Array Oper} {o:Oper} {a:Act} {K:Act→World→Prop} {Q:Exit→Act→World→Prop} {E:Prop} {w:World} (hgd:o.guard=none) (s x:Operand)
 (ho:o.op = .call { callee := .builtin .append,args:=#[s,x],argTypes:=#[66,66] })
 (base:Nat) (v:Value) (l:List (Int × Int)) (hs:a.eval s=v) (hown:OwnP w base v l) (g c:Nat) (p q:Int) (hx:a.eval x = .slice (some ⟨g,0,none⟩) 1 c)
 (hp:w.cell? ⟨g,0,none⟩=some (.int .i64 p)) (hq:w.cell? ⟨g,1,none⟩=some (.int .i64 q)) (hl:l.length+1≤1000000000) (hbase:base≤w.heap.size)
 (h:∀ v' w',OwnP w' base v' (l++[(p,q)])→Below base w w'→K (a.put o.dst v') w'):if Region.wanted o (yielded ops a.tmps)=true then Oper.wp Tryz.prog o a w K Q else E:=by
 obtain ⟨i0,hi,hz0,hz1,hz2⟩:=info_parts info70
 refine step_append_lies w hgd s x 66 ho base 70 i0 (.agg #[.int .i64 0,.int .i64 0]) 2 16 Tryz.underlying66 hi hz0 hz1 hz2 rfl (by decide) v l.length (fl l) hs hown ⟨g,0,none⟩ 1 c (fl [(p,q)]) hx rfl ?_ (fl_one _) (by omega) (by unfold maxLen;omega) (by omega) hbase _ rfl (fun g' cap w' h2 h3 _ _=>h _ w' ?_ ((Below.refl _ w).grown h3 hbase (fun k hk=>(World.ownsRow.lt hown k hk).1)))
 · intro j u hj
   match j,hj with
   | 0,hj=>simp [fl] at hj;subst hj;exact hp
   | 1,hj=>simp [fl] at hj;subst hj;exact hq
   | n+2,hj=>simp [fl] at hj
 · unfold OwnP
   rw [fl_append,List.length_append]
   exact h2
def brs (l:List Bk):List (Int × Int):=(0,0)::brd l
theorem brs_len (l:List Bk):(brs l).length=l.length+1:=by simp [brs,brd]
theorem brs_at {l:List Bk} {j:Nat} (h:j<(brs l).length):(brs l)[j]=(sAt l j,rAt l j):=by
 rw [brs_len] at h
 cases j with
 | zero=>rfl
 | succ j=>rw [sAt_succ (by omega),rAt_succ (by omega)];simp [brs,brd]
theorem brs_take {l:List Bk} {j:Nat} (h:j<l.length):(brs l).take (j+1+1)=(brs l).take (j+1)++[(l[j].2.1,l[j].2.2.2)]:=by
 rw [List.take_succ_eq_append_getElem (by rw [brs_len];omega),brs_at (by rw [brs_len];omega),sAt_succ h,rAt_succ h]
def RbQ (w:World) (l:List Bk) (e:Ending) (w':World):Prop:=∃ v b,e = .returned (.tuple #[v,.bool b])∧((Join l∧b=true∧Rs w' v (brs l))∨(¬ Join l∧b=false∧v = .slice none 0 0))∧Below w.heap.size w w'
theorem no_join {l:List Bk} {i:Nat} (hi:i<l.length) (h:¬ okB (sAt l i) (rAt l i) l[i]):¬ Join l:=fun hj=>h (hj i hi hi)
set_option maxHeartbeats 8000000 in
theorem rborders_walk (a:Option Addr) (n c:Nat) (l:List Bk) (w:World) (h:KR w (.slice a n c) l) (hl:l.length=n) (hn:n≤1000000):Calls Tryz.prog 33 #[.slice a n c] w (RbQ w l):=by
 have HK:=Hid.mk' h
 have HN:=Hid.mk' hl
 have hnI:(n:Int)≤1000000:=by omega
 clear h hl
 go_enter Tryz.func33,Tryz.ntmps33
 go_wp2
 go_loopg [4,5] n (fun q s4 s5 wr=>∃ (i:Nat) (oa:Option Addr) (oc:Nat),s4 = .slice oa (i+1) oc∧s5 = .int .i64 (i:Int)∧i≤n∧n - i≤q∧Hid (OwnP wr w.heap.size (.slice oa (i+1) oc) ((brs l).take (i+1))∧Below w.heap.size w wr∧Jn l i))
 case atStart=>exact ⟨0,_,1,rfl,rfl,by omega,by omega,own_oneP w,((Grown.refl w).alloc _).below,Jn.zero l⟩
 case round=>
  obtain ⟨i,oa,oc,rfl,rfl,hi1,hi2,HR⟩:=hrel
  have hiI:(i:Int)≤1000000:=by omega
  by_cases hil:i<n
  · have hilI:(i:Int)<(n:Int):=by omega
    have hl':i<l.length:=by rw [HN.out];exact hil
    have hiJ:(i:Int)+1 - 1=(i:Int):=by omega
    have hcast:(((i+1:Nat):Int)) - 1=(i:Int):=by omega
    have hlt1:(i:Int)<((i+1:Nat):Int):=by omega
    -- the last border
    have hrs:=HR.out.1.rs
    have htk:((brs l).take (i+1)).length=i+1:=by rw [List.length_take,brs_len];omega
    obtain ⟨g,o,hae,c0,c1⟩:=rs_cell hrs (j:=i) (by rw [htk];omega)
    subst hae
    rw [List.getElem_take,brs_at (by rw [brs_len];omega)] at c0 c1
    obtain ⟨S,hS⟩:∃ S,sAt l i=S:=⟨_,rfl⟩
    obtain ⟨R,hR⟩:∃ R,rAt l i=R:=⟨_,rfl⟩
    simp only [hS] at c0
    simp only [hR] at c1
    -- the block
    obtain ⟨g',o',hae',k0,k1,k2,k3⟩:=kr_cell HK.out hl'
    subst hae'
    have k0:=cell_below k0 HR.out.2.1 (Nat.le_refl _)
    have k1:=cell_below k1 HR.out.2.1 (Nat.le_refl _)
    have k2:=cell_below k2 HR.out.2.1 (Nat.le_refl _)
    have k3:=cell_below k3 HR.out.2.1 (Nat.le_refl _)
    obtain ⟨⟨p0,p1,p2,p3⟩,hp⟩:∃ p,l[i]=p:=⟨_,rfl⟩
    rw [hp] at k0 k1 k2 k3
    simp only at k0 k1 k2 k3
    have HP:Hid (l[i]=(p0,p1,p2,p3)∧sAt l i=S∧rAt l i=R):=⟨hp,hS,hR⟩
    have HBAD:Hid (¬ (p0=S∧p2=R∧p0<p1∧p2≤p3)→¬ Join l):=fun hno=>no_join hl' (fun ho=>hno (by
     unfold okB at ho
     rw [HP.out.1,HP.out.2.1,HP.out.2.2] at ho
     exact ho))
    have u0:=cell_up k0 (.cells #[.int .i64 S,.int .i64 R] 70)
    have u1:=cell_up k1 (.cells #[.int .i64 S,.int .i64 R] 70)
    have u2:=cell_up k2 (.cells #[.int .i64 S,.int .i64 R] 70)
    have u3:=cell_up k3 (.cells #[.int .i64 S,.int .i64 R] 70)
    clear hp hS hR hrs htk
    by_cases q0:p0=S
    · by_cases q1:p2=R
      · by_cases q2:p1≤p0
        · have b0:(p0 != S)=false:=by simpa using q0
          have b0':(p0 == S)=true:=by simpa using q0
          have b1:(p2 != R)=false:=by simpa using q1
          have b1':(p2 == R)=true:=by simpa using q1
          have HQ:Hid (p0=S∧p2=R):=⟨q0,q1⟩
          clear q0 q1
          go_wp2
          go_big_quiet (fail)
          go_wp2
          refine bodyPost_ret (v := .tuple #[.slice none 0 0,.bool false]) (by simp [results,Tryz.f33,go_sem]) rfl ?_
          exact ⟨_,_,rfl,.inr ⟨HBAD.out (fun h=>by omega),rfl,rfl⟩,HR.out.2.1.trans ((((Grown.refl wr).alloc _).drewN _).below.mono HR.out.2.1.size)⟩
        · have d2:decide (p1≤p0)=false:=by simpa using q2
          have d2':p0<p1:=by omega
          by_cases q3:p3<p2
          · have b0:(p0 != S)=false:=by simpa using q0
            have b0':(p0 == S)=true:=by simpa using q0
            have b1:(p2 != R)=false:=by simpa using q1
            have b1':(p2 == R)=true:=by simpa using q1
            have HQ:Hid (p0=S∧p2=R):=⟨q0,q1⟩
            clear q0 q1
            go_wp2
            go_big_quiet (fail)
            go_wp2
            refine bodyPost_ret (v := .tuple #[.slice none 0 0,.bool false]) (by simp [results,Tryz.f33,go_sem]) rfl ?_
            exact ⟨_,_,rfl,.inr ⟨HBAD.out (fun h=>by omega),rfl,rfl⟩,HR.out.2.1.trans ((((Grown.refl wr).alloc _).drewN _).below.mono HR.out.2.1.size)⟩
          · have d3:decide (p3<p2)=false:=by simpa using q3
            have b0:(p0 != S)=false:=by simpa using q0
            have b0':(p0 == S)=true:=by simpa using q0
            have b1:(p2 != R)=false:=by simpa using q1
            have b1':(p2 == R)=true:=by simpa using q1
            have HJ:Hid (Jn l (i+1)):=(Jn.succ hl').2 ⟨HR.out.2.2,by unfold okB;rw [HP.out.1,HP.out.2.1,HP.out.2.2];exact ⟨q0,q1,by simp only;omega,by simp only;omega⟩⟩
            have HTK:Hid ((brs l).take (i+1+1)=(brs l).take (i+1)++[(p1,p3)]):=by
             have:=brs_take hl'
             rw [HP.out.1] at this
             exact this
            have HL1:Hid (((brs l).take (i+1)).length=i+1):=by show _=_;rw [List.length_take,brs_len];omega
            clear q0 q1 HBAD
            have HW:Hid (∀ W,Grown wr W→OwnP W w.heap.size (.slice (some ⟨g,o,none⟩) (i+1) oc) ((brs l).take (i+1))∧w.heap.size≤W.heap.size):=fun W hg=>⟨HR.out.1.below hg.below (Nat.le_refl _),by have:=HR.out.2.1.size;have:=hg.size;omega⟩
            have HF:Hid (∀ v' W w',Grown wr W→OwnP w' w.heap.size v' ((brs l).take (i+1)++[(p1,p3)])→Below w.heap.size W w'→∃ a c,v' = .slice a (i+1+1) c∧OwnP w' w.heap.size (.slice a (i+1+1) c) ((brs l).take (i+1+1))∧Below w.heap.size w w'):=fun v' W w' hg h1 h2=>by
             obtain ⟨a,c,hf⟩:=h1.form
             rw [←HTK.out] at h1 hf
             have e:((brs l).take (i+1+1)).length=i+1+1:=by rw [List.length_take,brs_len];omega
             rw [e] at hf
             exact ⟨a,c,hf,by rw [←hf];exact h1,(HR.out.2.1.trans (hg.below.mono HR.out.2.1.size)).trans h2⟩
            go_wp2
            go_big_quiet (fail)
            go_wp2
            go_region_law (refine step_P rfl (.tmp 65) (.tmp 77) rfl w.heap.size (.slice (some ⟨g,o,none⟩) (i+1) oc) ((brs l).take (i+1)) rfl (HW.out _ (by (repeat (first | exact Grown.refl _ | refine Grown.alloc ?_ _ | refine Grown.drew ?_ | refine Grown.drewN ?_ _ | refine Grown.quiet ?_ _ _)))).1 _ _ p1 p3 rfl (by exact (cell_of (alloc_at (by simp))).trans rfl) (by exact (cell_of (alloc_at (by simp))).trans rfl) (by have:=HL1.out;omega) (HW.out _ (by (repeat (first | exact Grown.refl _ | refine Grown.alloc ?_ _ | refine Grown.drew ?_ | refine Grown.drewN ?_ _ | refine Grown.quiet ?_ _ _)))).2 ?_;intro v2 w2 hO2 hB2;obtain ⟨na,nc,hv2,hO3,hB3⟩:=HF.out _ _ _ (by (repeat (first | exact Grown.refl _ | refine Grown.alloc ?_ _ | refine Grown.drew ?_ | refine Grown.drewN ?_ _ | refine Grown.quiet ?_ _ _))) hO2 hB2;subst hv2;have HO3:=Hid.mk' (And.intro hO3 hB3);clear hO2 hB2 hO3 hB3)
            all_goals
             go_wp2
             go_roundg (n - (i+1))
             case measure=>omega
             case rel=>exact ⟨i+1,na,nc,rfl,rfl,by omega,Nat.le_refl _,HO3.out.1,HO3.out.2,HJ.out⟩
      · have b0:(p0 != S)=false:=by simpa using q0
        have b0':(p0 == S)=true:=by simpa using q0
        have b1:(p2 != R)=true:=by simpa using q1
        have b1':(p2 == R)=false:=by simpa using q1
        have HQ:Hid (¬ p2=R):=q1
        clear q0 q1
        go_wp2
        go_big_quiet (fail)
        go_wp2
        refine bodyPost_ret (v := .tuple #[.slice none 0 0,.bool false]) (by simp [results,Tryz.f33,go_sem]) rfl ?_
        exact ⟨_,_,rfl,.inr ⟨HBAD.out (fun h=>HQ.out (by first | exact h.2.1 | exact h.1)),rfl,rfl⟩,HR.out.2.1.trans ((((Grown.refl wr).alloc _).drewN _).below.mono HR.out.2.1.size)⟩
    · have b0:(p0 != S)=true:=by simpa using q0
      have b0':(p0 == S)=false:=by simpa using q0
      have HQ:Hid (¬ p0=S):=q0
      clear q0
      go_wp2
      go_big_quiet (fail)
      go_wp2
      refine bodyPost_ret (v := .tuple #[.slice none 0 0,.bool false]) (by simp [results,Tryz.f33,go_sem]) rfl ?_
      exact ⟨_,_,rfl,.inr ⟨HBAD.out (fun h=>HQ.out (by first | exact h.2.1 | exact h.1)),rfl,rfl⟩,HR.out.2.1.trans ((((Grown.refl wr).alloc _).drewN _).below.mono HR.out.2.1.size)⟩
  · have hilI:¬ (i:Int)<(n:Int):=by omega
    go_wp2
    refine bodyPost_ret (v := .tuple #[.slice oa (i+1) oc,.bool true]) (by simp [results,Tryz.f33,go_sem]) rfl ?_
    have e:i=l.length:=by rw [HN.out];omega
    refine ⟨_,_,rfl,.inl ⟨?_,rfl,?_⟩,HR.out.2.1⟩
    · have:=HR.out.2.2;rw [e] at this;exact this
    · have:=HR.out.1.rs
      rw [List.take_of_length_le (by rw [brs_len];omega)] at this
      exact this
theorem rborders_any (v:Value) (l:List Bk) (w:World) (h:KR w v l) (hn:l.length≤1000000):Calls Tryz.prog 33 #[v] w (RbQ w l):=by
 have h':=h
 obtain ⟨a,c,rfl,_⟩:=h
 exact rborders_walk a _ c l w h' rfl hn
end Go.Proofs
