/-
  Several texts in one (Oe Of).
-/
import Derived.RangeFuncNested
import Derived.RangeFuncBound
import Derived.RangeFuncCalls
import Derived.RangeFuncLeaves
import Derived.Shelf.Abstract
import Derived.Shelf.RegionOpen
import Derived.WalkKit
import Derived.WalkSpells
import Derived.WalkLawsBesides
import Derived.OwnWalkIn
import Derived.TacticsInMore
import Derived.LoopNIn
import Derived.LoopIn
import Derived.BigQuiet
import Derived.RegionIn
import Derived.Deep.QuietTactic
import Derived.Deep.RegionWith
import Derived.Lib.OthersKept
import Derived.Maps.AppendAt
import Derived.Lib.SmallJoins
import Derived.Shelf.SlSortCmp.QuietGrown
import Derived.Deep.AppendLies
import Derived.Deep.Upon
import Derived.Test.YtcfcjljapamcoaaGreatDoorMpex
import Derived.Test.YtcfcjljapamcoaaGreatDoorMprx
namespace Go.Proofs
open Go.RowKit Go.Shelf
set_option maxRecDepth 100000
attribute [local go_sem] Oper.semAt_some
attribute [local go_sem ↓] Go.wp_at_zero Go.wp_at_succ
section
variable {w0:World} {B rb i:Nat} {rv cv:Value} {C:List (Value × List (Pc × Value))} {R:List LRu} {W:World} {gv sv:Value} {G:List It} {S:List (Value × List It)}
end
theorem neq84 (a b:Int) (W:World):(binOp .neq 67 (.agg #[.int .i64 a,.int .i64 b]) (.agg #[.int .i64 a,.int .i64 b])).run Tryz.prog W = .ok (.bool false) W:=by
 go_simp
theorem rs_at {w:World} {a:Option Addr} {n c:Nat} {l:List (Int × Int)} (h:Rs w (.slice a n c) l) {j:Nat} (hj:j<l.length):∃ g o,a=some ⟨g,o,none⟩∧w.cell? ⟨g,o+j*2,none⟩=some (.int .i64 (rg l j).1)∧w.cell? ⟨g,o+j*2+1,none⟩=some (.int .i64 (rg l j).2):=by
 obtain ⟨a',c',e,_,h⟩:=h
 injection e with e1 _ _
 subst e1
 obtain ⟨g,o,e,h⟩:=h.resolve_left fun e=>by rw [e] at hj;simp at hj
 exact ⟨g,o,e,h j hj⟩
set_option maxHeartbeats 4000000 in
theorem sameSet_eq (av bv:Value) (l:List (Int × Int)) (w:World) (ha:Rs w av l) (hb:Rs w bv l) (hn:l.length≤1099511627776):Calls Tryz.prog 19 #[av,bv] w fun e w'=>e = .returned (.bool true)∧Grown w w':=by
 have he:=neq84
 have HA:Hid (Rs w av l):=ha
 have HB:Hid (Rs w bv l):=hb
 obtain ⟨a1,a3,e1,_,_⟩:=ha
 obtain ⟨b1,b3,e2,_,_⟩:=hb
 obtain ⟨n,hN⟩:∃ n,l.length=n:=⟨_,rfl⟩
 have HN:Hid (l.length=n):=hN
 rw [hN] at e1 e2 hn
 subst e1 e2
 have hnI:(n:Int)≤1099511627776:=by omega
 clear hN
 go_enter Tryz.func19,Tryz.ntmps19
 go_wp2
 go_loopw [5] (fun vi wr=>∃ k:Nat,vi = .int .i64 k∧k≤n∧Grown w wr) (fun vi _=>n - (intOf vi).toNat)
 case atStart=>exact ⟨0,rfl,by omega,Grown.refl _⟩
 case round=>
  obtain ⟨k,rfl,hk,hG⟩:=hrel
  have hk0:(0:Int)≤(k:Int):=by omega
  by_cases hlt:k<n
  · have hltI:(k:Int)<(n:Int):=by omega
    have hkl:k<l.length:=by rw [HN.out];exact hlt
    obtain ⟨g,o,e1,c1,c2⟩:=rs_at (HA.out.grown hG) hkl
    obtain ⟨g',o',e2,d1,d2⟩:=rs_at (HB.out.grown hG) hkl
    subst e1 e2
    generalize (rg l k).1=x at c1 d1
    generalize (rg l k).2=y at c2 d2
    have k1:=fun m os=>((Grown.refl wr).quiet m os).cellv c1
    have k2:=fun m os=>((Grown.refl wr).quiet m os).cellv c2
    have k3:=fun m os=>((Grown.refl wr).quiet m os).cellv d1
    have k4:=fun m os=>((Grown.refl wr).quiet m os).cellv d2
    go_wp2
    refine wp_region_quiet_grown mixed (by kernel_rfl) ?_
    repeat (go_big_quiet_step (fail))
    refine wpQuiet_nil ?_
    intro _ hw'
    obtain ⟨⟨nq,osq⟩,hw''⟩:=hw'
    subst hw''
    go_wp2
    exact ⟨⟨k+1,by go_num,by omega,hG.trans ((Grown.refl wr).quiet _ _)⟩,by simp [intOf];omega⟩
  · have hge:¬ (k:Int)<(n:Int):=by omega
    go_wp2
    go_ret
    exact ⟨rfl,hG⟩
theorem sr_at {w:World} {a:Option Addr} {n c:Nat} {ls:List (List (Int × Int))} (h:SR w (.slice a n c) ls) {j:Nat} (hj:j<ls.length):∃ g o sv,a=some ⟨g,o,none⟩∧w.cell? ⟨g,o+j,none⟩=some sv∧Rs w sv ls[j]:=by
 obtain ⟨a',c',e,_,h⟩:=h
 injection e with e1 _ _
 subst e1
 obtain ⟨g,o,e,h⟩:=h.resolve_left fun e=>by rw [e] at hj;simp at hj
 obtain ⟨sv,h1,h2⟩:=h j hj
 exact ⟨g,o,sv,e,h1,h2⟩
set_option maxHeartbeats 4000000 in
theorem sameSets_eq (av bv:Value) (ls:List (List (Int × Int))) (w:World) (ha:SR w av ls) (hb:SR w bv ls) (hn:ls.length≤1099511627776) (hl:∀ l∈ls,l.length≤1099511627776):Calls Tryz.prog 78 #[av,bv] w fun e w'=>e = .returned (.bool true)∧Grown w w':=by
 have HA:Hid (SR w av ls):=ha
 have HB:Hid (SR w bv ls):=hb
 have HL:Hid (∀ l∈ls,l.length≤1099511627776):=hl
 obtain ⟨a1,a3,e1,_,_⟩:=ha
 obtain ⟨b1,b3,e2,_,_⟩:=hb
 obtain ⟨n,hN⟩:∃ n,ls.length=n:=⟨_,rfl⟩
 have HN:Hid (ls.length=n):=hN
 rw [hN] at e1 e2 hn
 subst e1 e2
 have hnI:(n:Int)≤1099511627776:=by omega
 clear hN hl
 go_enter Tryz.func78,Tryz.ntmps78
 go_wp2
 go_loopw [5] (fun vi wr=>∃ k:Nat,vi = .int .i64 k∧k≤n∧Grown w wr) (fun vi _=>n - (intOf vi).toNat)
 case atStart=>exact ⟨0,rfl,by omega,Grown.refl _⟩
 case round=>
  obtain ⟨k,rfl,hk,hG⟩:=hrel
  have hk0:(0:Int)≤(k:Int):=by omega
  by_cases hlt:k<n
  · have hltI:(k:Int)<(n:Int):=by omega
    have hkl:k<ls.length:=by rw [HN.out];exact hlt
    obtain ⟨g,o,xv,e1,c1,hx⟩:=sr_at (HA.out.grown hG) hkl
    obtain ⟨g',o',yv,e2,d1,hy⟩:=sr_at (HB.out.grown hG) hkl
    subst e1 e2
    obtain ⟨x1,x2,x3,rfl⟩:=hx.sl
    obtain ⟨y1,y2,y3,rfl⟩:=hy.sl
    have HC:Hid (∀ m os,Calls Tryz.prog 19 #[.slice x1 x2 x3,.slice y1 y2 y3] (Go.Sort.grow (wr.drewN m) os) fun e w'=>e = .returned (.bool true)∧Grown (Go.Sort.grow (wr.drewN m) os) w'):=fun m os=>sameSet_eq _ _ _ _ (hx.grown ((Grown.refl wr).quiet m os)) (hy.grown ((Grown.refl wr).quiet m os)) (HL.out _ (List.getElem_mem hkl))
    have k1:=fun m os=>((Grown.refl wr).quiet m os).cellv c1
    have k3:=fun m os=>((Grown.refl wr).quiet m os).cellv d1
    clear hx hy
    go_wp2
    refine wp_region_quiet_grown mixed (by kernel_rfl) ?_
    repeat (go_big_quiet_step ((go_at_call 19;exact grown_of (HC.out _ _))))
    refine wpQuiet_nil ?_
    intro _ hw'
    obtain ⟨⟨nq,osq⟩,hw''⟩:=hw'
    subst hw''
    go_wp2
    exact ⟨⟨k+1,by go_num,by omega,hG.trans ((Grown.refl wr).quiet _ _)⟩,by simp [intOf];omega⟩
  · have hge:¬ (k:Int)<(n:Int):=by omega
    go_wp2
    go_ret
    exact ⟨rfl,hG⟩
theorem pr_at {w:World} {a:Option Addr} {n c:Nat} {ps:List Pc} (h:PR w (.slice a n c) ps) {j:Nat} (hj:j<ps.length):∃ g o tv,a=some ⟨g,o,none⟩∧w.cell? ⟨g,o+j*4,none⟩=some (.int .i64 ps[j].k)∧w.cell? ⟨g,o+j*4+1,none⟩=some (.int .i64 ps[j].u)∧w.cell? ⟨g,o+j*4+2,none⟩=some (.int .i64 ps[j].y)∧w.cell? ⟨g,o+j*4+3,none⟩=some tv∧Rs w tv ps[j].tl:=by
 obtain ⟨a',c',e,_,h⟩:=h
 injection e with e1 _ _
 subst e1
 obtain ⟨g,o,e,h⟩:=h.resolve_left fun e=>by rw [e] at hj;simp at hj
 obtain ⟨tv,h1⟩:=h j hj
 exact ⟨g,o,tv,e,h1⟩
set_option maxHeartbeats 8000000 in
theorem sameRule_eq (r:Rl) (av kv pv rv av' kv' pv' rv':Value) (w:World) (ha:RR w av kv pv rv r) (hb:RR w av' kv' pv' rv' r) (hz:Go.Proofs.YtcfcjljapamcoaaGreatDoor.Small r 1048576):Calls Tryz.prog 42 #[.agg #[.bool r.bg,av,kv,pv,.bool r.en,rv,.int .i64 r.cu],.agg #[.bool r.bg,av',kv',pv',.bool r.en,rv',.int .i64 r.cu]] w fun e w'=>e = .returned (.bool true)∧Grown w w':=by
 have HA:Hid (RR w av kv pv rv r):=ha
 have HB:Hid (RR w av' kv' pv' rv' r):=hb
 have HZ:=Hid.mk' hz
 have C1:Hid (∀ V,Grown w V→Calls Tryz.prog 78 #[av,av'] V fun e w'=>e = .returned (.bool true)∧Grown V w'):=fun V hg=>sameSets_eq _ _ r.ante _ (ha.grown hg).a (hb.grown hg).a (by have:=hz.na;omega) (fun l hl=>by have:=hz.sa l hl;omega)
 have C2:Hid (∀ V,Grown w V→Calls Tryz.prog 78 #[kv,kv'] V fun e w'=>e = .returned (.bool true)∧Grown V w'):=fun V hg=>sameSets_eq _ _ r.key _ (ha.grown hg).k (hb.grown hg).k (by have:=hz.nk;omega) (fun l hl=>by have:=hz.sk l hl;omega)
 have C3:Hid (∀ V,Grown w V→Calls Tryz.prog 78 #[pv,pv'] V fun e w'=>e = .returned (.bool true)∧Grown V w'):=fun V hg=>sameSets_eq _ _ r.post _ (ha.grown hg).p (hb.grown hg).p (by have:=hz.np;omega) (fun l hl=>by have:=hz.sp l hl;omega)
 obtain ⟨a1,a2,a3,rfl⟩:=ha.a.sl
 obtain ⟨k1,k2,k3,rfl⟩:=ha.k.sl
 obtain ⟨p1,p2,p3,rfl⟩:=ha.p.sl
 obtain ⟨r1,r3,hr1,_,_⟩:=ha.r
 obtain ⟨b1,b2,b3,rfl⟩:=hb.a.sl
 obtain ⟨l1,l2,l3,rfl⟩:=hb.k.sl
 obtain ⟨q1,q2,q3,rfl⟩:=hb.p.sl
 obtain ⟨s1,s3,hs1,_,_⟩:=hb.r
 obtain ⟨n,hN⟩:∃ n,r.res.length=n:=⟨_,rfl⟩
 have HN:Hid (r.res.length=n):=hN
 rw [hN] at hr1 hs1
 subst hr1 hs1
 have hnI:(n:Int)≤1048576:=by have:=hz.nr;omega
 generalize r.bg=xb
 generalize r.en=xe
 generalize r.cu=xc
 clear hN ha hb hz
 go_enter Tryz.func42,Tryz.ntmps42
 go_wp2_with fail
 obtain ⟨B,hB⟩:∃ B,w.heap.size=B:=⟨_,rfl⟩
 obtain ⟨w0,hw0⟩:∃ w0,w0=(w.alloc (.cells #[.bool xb,.slice a1 a2 a3,.slice k1 k2 k3,.slice p1 p2 p3,.bool xe,.slice r1 n r3,.int .i64 xc] 60)).alloc (.cells #[.bool xb,.slice b1 b2 b3,.slice l1 l2 l3,.slice q1 q2 q3,.bool xe,.slice s1 n s3,.int .i64 xc] 60):=⟨_,rfl⟩
 have HG0:Hid (Grown w w0):=by rw [hw0];exact ((Grown.refl w).alloc _).alloc _
 have H1:Hid (w0.heap[B]? = some (.cells #[.bool xb,.slice a1 a2 a3,.slice k1 k2 k3,.slice p1 p2 p3,.bool xe,.slice r1 n r3,.int .i64 xc] 60 (0,0))):=by show _=_;rw [hw0,Below.heap_alloc _ _ _ (by simp;omega)];exact new_blk hB
 have H2:Hid (w0.heap[B+1]? = some (.cells #[.bool xb,.slice b1 b2 b3,.slice l1 l2 l3,.slice q1 q2 q3,.bool xe,.slice s1 n s3,.int .i64 xc] 60 (0,0))):=by show _=_;rw [hw0];exact new_blk (by simp [hB])
 have HCE:Hid (∀ V,Grown w0 V→(V.cell? ⟨B,2,none⟩=some (.slice k1 k2 k3)∧V.cell? ⟨B+1,2,none⟩=some (.slice l1 l2 l3))∧(V.cell? ⟨B,3,none⟩=some (.slice p1 p2 p3)∧V.cell? ⟨B+1,3,none⟩=some (.slice q1 q2 q3))∧V.cell? ⟨B,5,none⟩=some (.slice r1 n r3)∧V.cell? ⟨B+1,5,none⟩=some (.slice s1 n s3)):=fun V hg=>by
  have h1:=blk_below H1.out hg.below (blk_lt H1.out)
  have h2:=blk_below H2.out hg.below (blk_lt H2.out)
  exact ⟨⟨by rw [cell_of h1];rfl,by rw [cell_of h2];rfl⟩,⟨by rw [cell_of h1];rfl,by rw [cell_of h2];rfl⟩,by rw [cell_of h1];rfl,by rw [cell_of h2];rfl⟩
 rw [←hw0,hB]
 clear hw0 hB H1 H2
 refine (C1.out _ HG0.out).mono ?_
 rintro e w1 ⟨rfl,hg1⟩
 obtain ⟨⟨c1,c2⟩,_⟩:=HCE.out w1 hg1
 have HG1:=Hid.mk' hg1
 clear hg1
 go_wp2_with fail
 refine (C2.out _ (HG0.out.trans HG1.out)).mono ?_
 rintro e w2 ⟨rfl,hg2⟩
 obtain ⟨_,⟨c3,c4⟩,_⟩:=HCE.out w2 (HG1.out.trans hg2)
 have HG2:=Hid.mk' (HG1.out.trans hg2)
 clear hg2
 go_wp2_with fail
 refine (C3.out _ (HG0.out.trans HG2.out)).mono ?_
 rintro e w3 ⟨rfl,hg3⟩
 have HG3:=Hid.mk' (HG2.out.trans hg3)
 clear hg3 c1 c2 c3 c4
 go_wp2
 go_loopw [5] (fun vi wr=>∃ k:Nat,vi = .int .i64 k∧k≤n∧Grown w3 wr) (fun vi _=>n - (intOf vi).toNat)
 case atStart=>exact ⟨0,rfl,by omega,Grown.refl _⟩
 case round=>
  obtain ⟨k,rfl,hk,hG⟩:=hrel
  have hk0:(0:Int)≤(k:Int):=by omega
  obtain ⟨_,_,f1,f2⟩:=HCE.out wr (HG3.out.trans hG)
  have f2':∀ ob,(wr.alloc ob).cell? ⟨B+1,5,none⟩=some (.slice s1 n s3):=fun ob=>cell_up f2 ob
  by_cases hlt:k<n
  · have hltI:(k:Int)<(n:Int):=by omega
    have hkl:k<r.res.length:=by rw [HN.out];exact hlt
    have hGw:=HG0.out.trans (HG3.out.trans hG)
    obtain ⟨g,o,xv,e1,x0,x1,x2,x3,hx⟩:=pr_at (HA.out.grown hGw).r hkl
    obtain ⟨g',o',yv,e2,y0,y1,y2,y3,hy⟩:=pr_at (HB.out.grown hGw).r hkl
    subst e1 e2
    obtain ⟨u1,u2,u3,rfl⟩:=hx.sl
    obtain ⟨v1,v2,v3,rfl⟩:=hy.sl
    have y0':=fun ob=>cell_up y0 ob
    have y1':=fun ob=>cell_up y1 ob
    have y2':=fun ob=>cell_up y2 ob
    have y3':=fun ob=>cell_up y3 ob
    have HC:Hid (∀ V,Grown wr V→Calls Tryz.prog 19 #[.slice u1 u2 u3,.slice v1 v2 v3] V fun e w'=>e = .returned (.bool true)∧Grown V w'):=fun V hg=>sameSet_eq _ _ _ _ (hx.grown hg) (hy.grown hg) (by have:=HZ.out.sr _ (List.getElem_mem hkl);omega)
    generalize r.res[k].k=z0 at *
    generalize r.res[k].u=z1 at *
    generalize r.res[k].y=z2 at *
    clear hx hy
    go_wp2_with (go_at_call 19;refine (HC.out _ (by (repeat (first | exact Grown.refl _ | refine Grown.alloc ?_ _ | refine Grown.drew ?_ | refine Grown.drewN ?_ _ | refine Grown.quiet ?_ _ _)))).mono ?_;rintro e w4 ⟨rfl,hg4⟩)
    exact ⟨⟨k+1,by go_num,by omega,hG.trans ((by (repeat (first | exact Grown.refl _ | refine Grown.alloc ?_ _ | refine Grown.drew ?_ | refine Grown.drewN ?_ _ | refine Grown.quiet ?_ _ _)):Grown wr _).trans hg4)⟩,by simp [intOf];omega⟩
  · have hge:¬ (k:Int)<(n:Int):=by omega
    go_wp2
    go_ret
    exact ⟨rfl,HG0.out.trans (HG3.out.trans hG)⟩
theorem psr_rule {w:World} {a:Option Addr} {n c:Nat} {rs:List Rl} (h:PsR w (.slice a n c) rs) {j:Nat} (hj:j<rs.length):∃ g o,a=some ⟨g,o,none⟩∧RAt w g (o+j*7) rs[j]:=by
 obtain ⟨a',c',e,_,h⟩:=h
 injection e with e1 _ _
 subst e1
 obtain ⟨g,o,e,h⟩:=h.resolve_left fun e=>by rw [e] at hj;simp at hj
 exact ⟨g,o,e,h j hj⟩
set_option maxHeartbeats 8000000 in
theorem samePass_eq (av bv:Value) (rs:List Rl) (w:World) (ha:PsR w av rs) (hb:PsR w bv rs) (hn:rs.length≤1048576) (hz:∀ r∈rs,Go.Proofs.YtcfcjljapamcoaaGreatDoor.Small r 1048576):Calls Tryz.prog 14 #[.agg #[av],.agg #[bv]] w fun e w'=>e = .returned (.bool true)∧Grown w w':=by
 have HA:Hid (PsR w av rs):=ha
 have HB:Hid (PsR w bv rs):=hb
 have HZ:=Hid.mk' hz
 obtain ⟨a1,a3,e1,_,_⟩:=ha
 obtain ⟨b1,b3,e2,_,_⟩:=hb
 obtain ⟨n,hN⟩:∃ n,rs.length=n:=⟨_,rfl⟩
 have HN:Hid (rs.length=n):=hN
 rw [hN] at e1 e2 hn
 subst e1 e2
 have hnI:(n:Int)≤1048576:=by omega
 clear hN hz
 go_enter Tryz.func14,Tryz.ntmps14
 go_wp2
 obtain ⟨B,hB⟩:∃ B,w.heap.size=B:=⟨_,rfl⟩
 obtain ⟨w0,hw0⟩:∃ w0,w0=(w.alloc (.cells #[.slice a1 n a3] 24)).alloc (.cells #[.slice b1 n b3] 24):=⟨_,rfl⟩
 have HG0:Hid (Grown w w0):=by rw [hw0];exact ((Grown.refl w).alloc _).alloc _
 have H1:Hid (w0.cell? ⟨B,0,none⟩=some (.slice a1 n a3)):=by show _=_;rw [hw0];refine cell_up ?_ _;rw [cell_of (new_blk hB)];rfl
 have H2:Hid (w0.cell? ⟨B+1,0,none⟩=some (.slice b1 n b3)):=by show _=_;rw [hw0,cell_of (new_blk (by simp [hB]))];rfl
 rw [←hw0,hB]
 clear hw0 hB
 go_loopw [5] (fun vi wr=>∃ k:Nat,vi = .int .i64 k∧k≤n∧Grown w0 wr) (fun vi _=>n - (intOf vi).toNat)
 case atStart=>exact ⟨0,rfl,by omega,Grown.refl _⟩
 case round=>
  obtain ⟨k,rfl,hk,hG⟩:=hrel
  have hk0:(0:Int)≤(k:Int):=by omega
  have f1:=hG.cellv H1.out
  have f2:=hG.cellv H2.out
  by_cases hlt:k<n
  · have hltI:(k:Int)<(n:Int):=by omega
    have hkl:k<rs.length:=by rw [HN.out];exact hlt
    have hGw:=HG0.out.trans hG
    obtain ⟨g,o,e1,xa,xk,xp,xr,x0,x1,x2,x3,x4,x5,x6,hx⟩:=psr_rule (HA.out.grown hGw) hkl
    obtain ⟨g',o',e2,ya,yk,yp,yr,y0,y1,y2,y3,y4,y5,y6,hy⟩:=psr_rule (HB.out.grown hGw) hkl
    subst e1 e2
    have HC:Hid (∀ m os,Calls Tryz.prog 42 #[.agg #[.bool rs[k].bg,xa,xk,xp,.bool rs[k].en,xr,.int .i64 rs[k].cu],.agg #[.bool rs[k].bg,ya,yk,yp,.bool rs[k].en,yr,.int .i64 rs[k].cu]] (Go.Sort.grow (wr.drewN m) os) fun e w'=>e = .returned (.bool true)∧Grown (Go.Sort.grow (wr.drewN m) os) w'):=fun m os=>sameRule_eq _ _ _ _ _ _ _ _ _ _ (hx.grown ((Grown.refl wr).quiet m os)) (hy.grown ((Grown.refl wr).quiet m os)) (HZ.out _ (List.getElem_mem hkl))
    obtain ⟨u1,u2,u3,rfl⟩:=hx.a.sl
    obtain ⟨u4,u5,u6,rfl⟩:=hx.k.sl
    obtain ⟨u7,u8,u9,rfl⟩:=hx.p.sl
    obtain ⟨v1,v2,v3,rfl⟩:=hx.r.sl
    obtain ⟨v4,v5,v6,rfl⟩:=hy.a.sl
    obtain ⟨v7,v8,v9,rfl⟩:=hy.k.sl
    obtain ⟨t1,t2,t3,rfl⟩:=hy.p.sl
    obtain ⟨t4,t5,t6,rfl⟩:=hy.r.sl
    generalize rs[k].bg=z0 at *
    generalize rs[k].en=z1 at *
    generalize rs[k].cu=z2 at *
    have m1:=fun m os=>((Grown.refl wr).quiet m os).cellv f1
    have m2:=fun m os=>((Grown.refl wr).quiet m os).cellv f2
    have p0:=fun m os=>((Grown.refl wr).quiet m os).cellv x0
    have p1:=fun m os=>((Grown.refl wr).quiet m os).cellv x1
    have p2:=fun m os=>((Grown.refl wr).quiet m os).cellv x2
    have p3:=fun m os=>((Grown.refl wr).quiet m os).cellv x3
    have p4:=fun m os=>((Grown.refl wr).quiet m os).cellv x4
    have p5:=fun m os=>((Grown.refl wr).quiet m os).cellv x5
    have p6:=fun m os=>((Grown.refl wr).quiet m os).cellv x6
    have q0:=fun m os=>((Grown.refl wr).quiet m os).cellv y0
    have q1:=fun m os=>((Grown.refl wr).quiet m os).cellv y1
    have q2:=fun m os=>((Grown.refl wr).quiet m os).cellv y2
    have q3:=fun m os=>((Grown.refl wr).quiet m os).cellv y3
    have q4:=fun m os=>((Grown.refl wr).quiet m os).cellv y4
    have q5:=fun m os=>((Grown.refl wr).quiet m os).cellv y5
    have q6:=fun m os=>((Grown.refl wr).quiet m os).cellv y6
    clear hx hy
    go_wp2
    refine wp_region_quiet_grown mixed (by kernel_rfl) ?_
    repeat (go_big_quiet_step ((go_at_call 42;exact grown_of (HC.out _ _))))
    refine wpQuiet_nil ?_
    intro _ hw'
    obtain ⟨⟨nq,osq⟩,hw''⟩:=hw'
    subst hw''
    go_wp2
    exact ⟨⟨k+1,by go_num,by omega,hG.trans ((Grown.refl wr).quiet _ _)⟩,by simp [intOf];omega⟩
  · have hge:¬ (k:Int)<(n:Int):=by omega
    go_wp2
    go_ret
    exact ⟨rfl,HG0.out.trans hG⟩
end Go.Proofs
