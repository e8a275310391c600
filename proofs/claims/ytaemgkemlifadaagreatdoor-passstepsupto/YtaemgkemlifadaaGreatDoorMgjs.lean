/-
  Several texts in one (Of Og Oh Jd Jf).
-/
import Derived.Test.YtaemgkemlifadaaGreatDoorOes
import Derived.Test.YtaemgkemlifadaaGreatDoorMgas
import Derived.Test.YtaemgkemlifadaaGreatDoorWes
import Derived.Test.YtaemgkemlifadaaGreatDoorMas
namespace Go.Proofs
open Go.RowKit Go.Shelf
set_option maxRecDepth 100000
attribute [local go_sem] Oper.semAt_some
attribute [local go_sem ↓] Go.wp_at_zero Go.wp_at_succ
theorem neq84 (a b:Int) (W:World):(binOp .neq 84 (.agg #[.int .i64 a,.int .i64 b]) (.agg #[.int .i64 a,.int .i64 b])).run Tryz.prog W = .ok (.bool false) W:=by
 go_simp
theorem rs_at {w:World} {a:Option Addr} {n c:Nat} {l:List (Int × Int)} (h:Rs w (.slice a n c) l) {j:Nat} (hj:j<l.length):∃ g o,a=some ⟨g,o,none⟩∧w.cell? ⟨g,o+j*2,none⟩=some (.int .i64 (rg l j).1)∧w.cell? ⟨g,o+j*2+1,none⟩=some (.int .i64 (rg l j).2):=by
 obtain ⟨a',c',e,_,h⟩:=h
 injection e with e1 _ _
 subst e1
 obtain ⟨g,o,e,h⟩:=h.resolve_left fun e=>by rw [e] at hj;simp at hj
 exact ⟨g,o,e,h j hj⟩
set_option maxHeartbeats 4000000 in
theorem sameSet_eq (av bv:Value) (l:List (Int × Int)) (w:World) (ha:Rs w av l) (hb:Rs w bv l) (hn:l.length≤1099511627776):Calls Tryz.prog 84 #[av,bv] w fun e w'=>e = .returned (.bool true)∧Grown w w':=by
 have he:=neq84
 have HA:Hid (Rs w av l):=ha
 have HB:Hid (Rs w bv l):=hb
 obtain ⟨a1,a3,e1,_,_⟩:=ha
 obtain ⟨b1,b3,e2,_,_⟩:=hb
 obtain ⟨n,hN⟩:∃ n,l.length=n:=⟨_,rfl⟩
 have HN:Hid (l.length=n):=hN
 rw [hN] at e1 e2 hn
 subst e1 e2
 have hnI:(n:Int)≤1099511627776:=by omega
 clear hN
 go_enter Tryz.func84,Tryz.ntmps84
 go_wp2
 go_loopw [5] (fun vi wr=>∃ k:Nat,vi = .int .i64 k∧k≤n∧Grown w wr) (fun vi _=>n - (intOf vi).toNat)
 case atStart=>exact ⟨0,rfl,by omega,Grown.refl _⟩
 case round=>
  obtain ⟨k,rfl,hk,hG⟩:=hrel
  have hk0:(0:Int)≤(k:Int):=by omega
  by_cases hlt:k<n
  · have hltI:(k:Int)<(n:Int):=by omega
    have hkl:k<l.length:=by rw [HN.out];exact hlt
    obtain ⟨g,o,e1,c1,c2⟩:=rs_at (HA.out.grown hG) hkl
    obtain ⟨g',o',e2,d1,d2⟩:=rs_at (HB.out.grown hG) hkl
    subst e1 e2
    generalize (rg l k).1=x at c1 d1
    generalize (rg l k).2=y at c2 d2
    have k1:=fun m os=>((Grown.refl wr).quiet m os).cellv c1
    have k2:=fun m os=>((Grown.refl wr).quiet m os).cellv c2
    have k3:=fun m os=>((Grown.refl wr).quiet m os).cellv d1
    have k4:=fun m os=>((Grown.refl wr).quiet m os).cellv d2
    go_wp2
    refine wp_region_quiet_grown mixed (by kernel_rfl) ?_
    repeat (go_big_quiet_step (fail))
    refine wpQuiet_nil ?_
    intro _ hw'
    obtain ⟨⟨nq,osq⟩,hw''⟩:=hw'
    subst hw''
    go_wp2
    exact ⟨⟨k+1,by go_num,by omega,hG.trans ((Grown.refl wr).quiet _ _)⟩,by simp [intOf];omega⟩
  · have hge:¬ (k:Int)<(n:Int):=by omega
    go_wp2
    go_ret
    exact ⟨rfl,hG⟩
theorem sr_at {w:World} {a:Option Addr} {n c:Nat} {ls:List (List (Int × Int))} (h:SR w (.slice a n c) ls) {j:Nat} (hj:j<ls.length):∃ g o sv,a=some ⟨g,o,none⟩∧w.cell? ⟨g,o+j,none⟩=some sv∧Rs w sv ls[j]:=by
 obtain ⟨a',c',e,_,h⟩:=h
 injection e with e1 _ _
 subst e1
 obtain ⟨g,o,e,h⟩:=h.resolve_left fun e=>by rw [e] at hj;simp at hj
 obtain ⟨sv,h1,h2⟩:=h j hj
 exact ⟨g,o,sv,e,h1,h2⟩
set_option maxHeartbeats 4000000 in
theorem sameSets_eq (av bv:Value) (ls:List (List (Int × Int))) (w:World) (ha:SR w av ls) (hb:SR w bv ls) (hn:ls.length≤1099511627776) (hl:∀ l∈ls,l.length≤1099511627776):Calls Tryz.prog 83 #[av,bv] w fun e w'=>e = .returned (.bool true)∧Grown w w':=by
 have HA:Hid (SR w av ls):=ha
 have HB:Hid (SR w bv ls):=hb
 have HL:Hid (∀ l∈ls,l.length≤1099511627776):=hl
 obtain ⟨a1,a3,e1,_,_⟩:=ha
 obtain ⟨b1,b3,e2,_,_⟩:=hb
 obtain ⟨n,hN⟩:∃ n,ls.length=n:=⟨_,rfl⟩
 have HN:Hid (ls.length=n):=hN
 rw [hN] at e1 e2 hn
 subst e1 e2
 have hnI:(n:Int)≤1099511627776:=by omega
 clear hN hl
 go_enter Tryz.func83,Tryz.ntmps83
 go_wp2
 go_loopw [5] (fun vi wr=>∃ k:Nat,vi = .int .i64 k∧k≤n∧Grown w wr) (fun vi _=>n - (intOf vi).toNat)
 case atStart=>exact ⟨0,rfl,by omega,Grown.refl _⟩
 case round=>
  obtain ⟨k,rfl,hk,hG⟩:=hrel
  have hk0:(0:Int)≤(k:Int):=by omega
  by_cases hlt:k<n
  · have hltI:(k:Int)<(n:Int):=by omega
    have hkl:k<ls.length:=by rw [HN.out];exact hlt
    obtain ⟨g,o,xv,e1,c1,hx⟩:=sr_at (HA.out.grown hG) hkl
    obtain ⟨g',o',yv,e2,d1,hy⟩:=sr_at (HB.out.grown hG) hkl
    subst e1 e2
    obtain ⟨x1,x2,x3,rfl⟩:=hx.sl
    obtain ⟨y1,y2,y3,rfl⟩:=hy.sl
    have HC:Hid (∀ m os,Calls Tryz.prog 84 #[.slice x1 x2 x3,.slice y1 y2 y3] (Go.Sort.grow (wr.drewN m) os) fun e w'=>e = .returned (.bool true)∧Grown (Go.Sort.grow (wr.drewN m) os) w'):=fun m os=>sameSet_eq _ _ _ _ (hx.grown ((Grown.refl wr).quiet m os)) (hy.grown ((Grown.refl wr).quiet m os)) (HL.out _ (List.getElem_mem hkl))
    have k1:=fun m os=>((Grown.refl wr).quiet m os).cellv c1
    have k3:=fun m os=>((Grown.refl wr).quiet m os).cellv d1
    clear hx hy
    go_wp2
    refine wp_region_quiet_grown mixed (by kernel_rfl) ?_
    repeat (go_big_quiet_step ((go_at_call 84;exact grown_of (HC.out _ _))))
    refine wpQuiet_nil ?_
    intro _ hw'
    obtain ⟨⟨nq,osq⟩,hw''⟩:=hw'
    subst hw''
    go_wp2
    exact ⟨⟨k+1,by go_num,by omega,hG.trans ((Grown.refl wr).quiet _ _)⟩,by simp [intOf];omega⟩
  · have hge:¬ (k:Int)<(n:Int):=by omega
    go_wp2
    go_ret
    exact ⟨rfl,hG⟩
theorem eql84 (a b:Int) (W:World):(binOp .eql 84 (.agg #[.int .i64 a,.int .i64 b]) (.agg #[.int .i64 a,.int .i64 b])).run Tryz.prog W = .ok (.bool true) W:=by
 go_simp
theorem pr_at {w:World} {a:Option Addr} {n c:Nat} {ps:List Pc} (h:PR w (.slice a n c) ps) {j:Nat} (hj:j<ps.length):∃ g o tv,a=some ⟨g,o,none⟩∧w.cell? ⟨g,o+j*4,none⟩=some (.int .i64 ps[j].k)∧w.cell? ⟨g,o+j*4+1,none⟩=some (.int .i64 ps[j].u)∧w.cell? ⟨g,o+j*4+2,none⟩=some (.int .i64 ps[j].y)∧w.cell? ⟨g,o+j*4+3,none⟩=some tv∧Rs w tv ps[j].tl:=by
 obtain ⟨a',c',e,_,h⟩:=h
 injection e with e1 _ _
 subst e1
 obtain ⟨g,o,e,h⟩:=h.resolve_left fun e=>by rw [e] at hj;simp at hj
 obtain ⟨tv,h1⟩:=h j hj
 exact ⟨g,o,tv,e,h1⟩
set_option maxHeartbeats 8000000 in
theorem sameRule_eq (r:Rl) (av kv pv rv av' kv' pv' rv':Value) (w:World) (ha:RR w av kv pv rv r) (hb:RR w av' kv' pv' rv' r) (hz:Go.Proofs.YtaemgkemlifadaaGreatDoor.Small r 1048576):Calls Tryz.prog 57 #[.agg #[.bool r.bg,av,kv,pv,.bool r.en,rv,.int .i64 r.cu],.agg #[.bool r.bg,av',kv',pv',.bool r.en,rv',.int .i64 r.cu]] w fun e w'=>e = .returned (.bool true)∧Grown w w':=by
 have HA:Hid (RR w av kv pv rv r):=ha
 have HB:Hid (RR w av' kv' pv' rv' r):=hb
 have HZ:=Hid.mk' hz
 have C1:Hid (∀ V,Grown w V→Calls Tryz.prog 83 #[av,av'] V fun e w'=>e = .returned (.bool true)∧Grown V w'):=fun V hg=>sameSets_eq _ _ r.ante _ (ha.grown hg).a (hb.grown hg).a (by have:=hz.na;omega) (fun l hl=>by have:=hz.sa l hl;omega)
 have C2:Hid (∀ V,Grown w V→Calls Tryz.prog 83 #[kv,kv'] V fun e w'=>e = .returned (.bool true)∧Grown V w'):=fun V hg=>sameSets_eq _ _ r.key _ (ha.grown hg).k (hb.grown hg).k (by have:=hz.nk;omega) (fun l hl=>by have:=hz.sk l hl;omega)
 have C3:Hid (∀ V,Grown w V→Calls Tryz.prog 83 #[pv,pv'] V fun e w'=>e = .returned (.bool true)∧Grown V w'):=fun V hg=>sameSets_eq _ _ r.post _ (ha.grown hg).p (hb.grown hg).p (by have:=hz.np;omega) (fun l hl=>by have:=hz.sp l hl;omega)
 obtain ⟨a1,a2,a3,rfl⟩:=ha.a.sl
 obtain ⟨k1,k2,k3,rfl⟩:=ha.k.sl
 obtain ⟨p1,p2,p3,rfl⟩:=ha.p.sl
 obtain ⟨r1,r3,hr1,_,_⟩:=ha.r
 obtain ⟨b1,b2,b3,rfl⟩:=hb.a.sl
 obtain ⟨l1,l2,l3,rfl⟩:=hb.k.sl
 obtain ⟨q1,q2,q3,rfl⟩:=hb.p.sl
 obtain ⟨s1,s3,hs1,_,_⟩:=hb.r
 obtain ⟨n,hN⟩:∃ n,r.res.length=n:=⟨_,rfl⟩
 have HN:Hid (r.res.length=n):=hN
 rw [hN] at hr1 hs1
 subst hr1 hs1
 have hnI:(n:Int)≤1048576:=by have:=hz.nr;omega
 generalize r.bg=xb
 generalize r.en=xe
 generalize r.cu=xc
 clear hN ha hb hz
 go_enter Tryz.func57,Tryz.ntmps57
 go_wp2_with fail
 obtain ⟨B,hB⟩:∃ B,w.heap.size=B:=⟨_,rfl⟩
 obtain ⟨w0,hw0⟩:∃ w0,w0=(w.alloc (.cells #[.bool xb,.slice a1 a2 a3,.slice k1 k2 k3,.slice p1 p2 p3,.bool xe,.slice r1 n r3,.int .i64 xc] 53)).alloc (.cells #[.bool xb,.slice b1 b2 b3,.slice l1 l2 l3,.slice q1 q2 q3,.bool xe,.slice s1 n s3,.int .i64 xc] 53):=⟨_,rfl⟩
 have HG0:Hid (Grown w w0):=by rw [hw0];exact ((Grown.refl w).alloc _).alloc _
 have H1:Hid (w0.heap[B]? = some (.cells #[.bool xb,.slice a1 a2 a3,.slice k1 k2 k3,.slice p1 p2 p3,.bool xe,.slice r1 n r3,.int .i64 xc] 53 (0,0))):=by show _=_;rw [hw0,Below.heap_alloc _ _ _ (by simp;omega)];exact new_blk hB
 have H2:Hid (w0.heap[B+1]? = some (.cells #[.bool xb,.slice b1 b2 b3,.slice l1 l2 l3,.slice q1 q2 q3,.bool xe,.slice s1 n s3,.int .i64 xc] 53 (0,0))):=by show _=_;rw [hw0];exact new_blk (by simp [hB])
 have HCE:Hid (∀ V,Grown w0 V→(V.cell? ⟨B,2,none⟩=some (.slice k1 k2 k3)∧V.cell? ⟨B+1,2,none⟩=some (.slice l1 l2 l3))∧(V.cell? ⟨B,3,none⟩=some (.slice p1 p2 p3)∧V.cell? ⟨B+1,3,none⟩=some (.slice q1 q2 q3))∧V.cell? ⟨B,5,none⟩=some (.slice r1 n r3)∧V.cell? ⟨B+1,5,none⟩=some (.slice s1 n s3)):=fun V hg=>by
  have h1:=blk_below H1.out hg.below (blk_lt H1.out)
  have h2:=blk_below H2.out hg.below (blk_lt H2.out)
  exact ⟨⟨by rw [cell_of h1];rfl,by rw [cell_of h2];rfl⟩,⟨by rw [cell_of h1];rfl,by rw [cell_of h2];rfl⟩,by rw [cell_of h1];rfl,by rw [cell_of h2];rfl⟩
 rw [←hw0,hB]
 clear hw0 hB H1 H2
 refine (C1.out _ HG0.out).mono ?_
 rintro e w1 ⟨rfl,hg1⟩
 obtain ⟨⟨c1,c2⟩,_⟩:=HCE.out w1 hg1
 have HG1:=Hid.mk' hg1
 clear hg1
 go_wp2_with fail
 refine (C2.out _ (HG0.out.trans HG1.out)).mono ?_
 rintro e w2 ⟨rfl,hg2⟩
 obtain ⟨_,⟨c3,c4⟩,_⟩:=HCE.out w2 (HG1.out.trans hg2)
 have HG2:=Hid.mk' (HG1.out.trans hg2)
 clear hg2
 go_wp2_with fail
 refine (C3.out _ (HG0.out.trans HG2.out)).mono ?_
 rintro e w3 ⟨rfl,hg3⟩
 have HG3:=Hid.mk' (HG2.out.trans hg3)
 clear hg3 c1 c2 c3 c4
 go_wp2
 go_loopw [5] (fun vi wr=>∃ k:Nat,vi = .int .i64 k∧k≤n∧Grown w3 wr) (fun vi _=>n - (intOf vi).toNat)
 case atStart=>exact ⟨0,rfl,by omega,Grown.refl _⟩
 case round=>
  obtain ⟨k,rfl,hk,hG⟩:=hrel
  have hk0:(0:Int)≤(k:Int):=by omega
  obtain ⟨_,_,f1,f2⟩:=HCE.out wr (HG3.out.trans hG)
  have f2':∀ ob,(wr.alloc ob).cell? ⟨B+1,5,none⟩=some (.slice s1 n s3):=fun ob=>cell_up f2 ob
  by_cases hlt:k<n
  · have hltI:(k:Int)<(n:Int):=by omega
    have hkl:k<r.res.length:=by rw [HN.out];exact hlt
    have hGw:=HG0.out.trans (HG3.out.trans hG)
    obtain ⟨g,o,xv,e1,x0,x1,x2,x3,hx⟩:=pr_at (HA.out.grown hGw).r hkl
    obtain ⟨g',o',yv,e2,y0,y1,y2,y3,hy⟩:=pr_at (HB.out.grown hGw).r hkl
    subst e1 e2
    obtain ⟨u1,u2,u3,rfl⟩:=hx.sl
    obtain ⟨v1,v2,v3,rfl⟩:=hy.sl
    have y0':=fun ob=>cell_up y0 ob
    have y1':=fun ob=>cell_up y1 ob
    have y2':=fun ob=>cell_up y2 ob
    have y3':=fun ob=>cell_up y3 ob
    have HC:Hid (∀ V,Grown wr V→Calls Tryz.prog 84 #[.slice u1 u2 u3,.slice v1 v2 v3] V fun e w'=>e = .returned (.bool true)∧Grown V w'):=fun V hg=>sameSet_eq _ _ _ _ (hx.grown hg) (hy.grown hg) (by have:=HZ.out.sr _ (List.getElem_mem hkl);omega)
    generalize r.res[k].k=z0 at *
    generalize r.res[k].u=z1 at *
    generalize r.res[k].y=z2 at *
    clear hx hy
    go_wp2_with (go_at_call 84;refine (HC.out _ (by (repeat (first | exact Grown.refl _ | refine Grown.alloc ?_ _ | refine Grown.drew ?_ | refine Grown.drewN ?_ _ | refine Grown.quiet ?_ _ _)))).mono ?_;rintro e w4 ⟨rfl,hg4⟩)
    exact ⟨⟨k+1,by go_num,by omega,hG.trans ((by (repeat (first | exact Grown.refl _ | refine Grown.alloc ?_ _ | refine Grown.drew ?_ | refine Grown.drewN ?_ _ | refine Grown.quiet ?_ _ _)):Grown wr _).trans hg4)⟩,by simp [intOf];omega⟩
  · have hge:¬ (k:Int)<(n:Int):=by omega
    go_wp2
    go_ret
    exact ⟨rfl,HG0.out.trans (HG3.out.trans hG)⟩
theorem psr_rule {w:World} {a:Option Addr} {n c:Nat} {rs:List Rl} (h:PsR w (.slice a n c) rs) {j:Nat} (hj:j<rs.length):∃ g o,a=some ⟨g,o,none⟩∧RAt w g (o+j*7) rs[j]:=by
 obtain ⟨a',c',e,_,h⟩:=h
 injection e with e1 _ _
 subst e1
 obtain ⟨g,o,e,h⟩:=h.resolve_left fun e=>by rw [e] at hj;simp at hj
 exact ⟨g,o,e,h j hj⟩
set_option maxHeartbeats 8000000 in
theorem samePass_eq (av bv:Value) (rs:List Rl) (w:World) (ha:PsR w av rs) (hb:PsR w bv rs) (hn:rs.length≤1048576) (hz:∀ r∈rs,Go.Proofs.YtaemgkemlifadaaGreatDoor.Small r 1048576):Calls Tryz.prog 32 #[.agg #[av],.agg #[bv]] w fun e w'=>e = .returned (.bool true)∧Grown w w':=by
 have HA:Hid (PsR w av rs):=ha
 have HB:Hid (PsR w bv rs):=hb
 have HZ:=Hid.mk' hz
 obtain ⟨a1,a3,e1,_,_⟩:=ha
 obtain ⟨b1,b3,e2,_,_⟩:=hb
 obtain ⟨n,hN⟩:∃ n,rs.length=n:=⟨_,rfl⟩
 have HN:Hid (rs.length=n):=hN
 rw [hN] at e1 e2 hn
 subst e1 e2
 have hnI:(n:Int)≤1048576:=by omega
 clear hN hz
 go_enter Tryz.func32,Tryz.ntmps32
 go_wp2
 obtain ⟨B,hB⟩:∃ B,w.heap.size=B:=⟨_,rfl⟩
 obtain ⟨w0,hw0⟩:∃ w0,w0=(w.alloc (.cells #[.slice a1 n a3] 24)).alloc (.cells #[.slice b1 n b3] 24):=⟨_,rfl⟩
 have HG0:Hid (Grown w w0):=by rw [hw0];exact ((Grown.refl w).alloc _).alloc _
 have H1:Hid (w0.cell? ⟨B,0,none⟩=some (.slice a1 n a3)):=by show _=_;rw [hw0];refine cell_up ?_ _;rw [cell_of (new_blk hB)];rfl
 have H2:Hid (w0.cell? ⟨B+1,0,none⟩=some (.slice b1 n b3)):=by show _=_;rw [hw0,cell_of (new_blk (by simp [hB]))];rfl
 rw [←hw0,hB]
 clear hw0 hB
 go_loopw [5] (fun vi wr=>∃ k:Nat,vi = .int .i64 k∧k≤n∧Grown w0 wr) (fun vi _=>n - (intOf vi).toNat)
 case atStart=>exact ⟨0,rfl,by omega,Grown.refl _⟩
 case round=>
  obtain ⟨k,rfl,hk,hG⟩:=hrel
  have hk0:(0:Int)≤(k:Int):=by omega
  have f1:=hG.cellv H1.out
  have f2:=hG.cellv H2.out
  by_cases hlt:k<n
  · have hltI:(k:Int)<(n:Int):=by omega
    have hkl:k<rs.length:=by rw [HN.out];exact hlt
    have hGw:=HG0.out.trans hG
    obtain ⟨g,o,e1,xa,xk,xp,xr,x0,x1,x2,x3,x4,x5,x6,hx⟩:=psr_rule (HA.out.grown hGw) hkl
    obtain ⟨g',o',e2,ya,yk,yp,yr,y0,y1,y2,y3,y4,y5,y6,hy⟩:=psr_rule (HB.out.grown hGw) hkl
    subst e1 e2
    have HC:Hid (∀ m os,Calls Tryz.prog 57 #[.agg #[.bool rs[k].bg,xa,xk,xp,.bool rs[k].en,xr,.int .i64 rs[k].cu],.agg #[.bool rs[k].bg,ya,yk,yp,.bool rs[k].en,yr,.int .i64 rs[k].cu]] (Go.Sort.grow (wr.drewN m) os) fun e w'=>e = .returned (.bool true)∧Grown (Go.Sort.grow (wr.drewN m) os) w'):=fun m os=>sameRule_eq _ _ _ _ _ _ _ _ _ _ (hx.grown ((Grown.refl wr).quiet m os)) (hy.grown ((Grown.refl wr).quiet m os)) (HZ.out _ (List.getElem_mem hkl))
    obtain ⟨u1,u2,u3,rfl⟩:=hx.a.sl
    obtain ⟨u4,u5,u6,rfl⟩:=hx.k.sl
    obtain ⟨u7,u8,u9,rfl⟩:=hx.p.sl
    obtain ⟨v1,v2,v3,rfl⟩:=hx.r.sl
    obtain ⟨v4,v5,v6,rfl⟩:=hy.a.sl
    obtain ⟨v7,v8,v9,rfl⟩:=hy.k.sl
    obtain ⟨t1,t2,t3,rfl⟩:=hy.p.sl
    obtain ⟨t4,t5,t6,rfl⟩:=hy.r.sl
    generalize rs[k].bg=z0 at *
    generalize rs[k].en=z1 at *
    generalize rs[k].cu=z2 at *
    have m1:=fun m os=>((Grown.refl wr).quiet m os).cellv f1
    have m2:=fun m os=>((Grown.refl wr).quiet m os).cellv f2
    have p0:=fun m os=>((Grown.refl wr).quiet m os).cellv x0
    have p1:=fun m os=>((Grown.refl wr).quiet m os).cellv x1
    have p2:=fun m os=>((Grown.refl wr).quiet m os).cellv x2
    have p3:=fun m os=>((Grown.refl wr).quiet m os).cellv x3
    have p4:=fun m os=>((Grown.refl wr).quiet m os).cellv x4
    have p5:=fun m os=>((Grown.refl wr).quiet m os).cellv x5
    have p6:=fun m os=>((Grown.refl wr).quiet m os).cellv x6
    have q0:=fun m os=>((Grown.refl wr).quiet m os).cellv y0
    have q1:=fun m os=>((Grown.refl wr).quiet m os).cellv y1
    have q2:=fun m os=>((Grown.refl wr).quiet m os).cellv y2
    have q3:=fun m os=>((Grown.refl wr).quiet m os).cellv y3
    have q4:=fun m os=>((Grown.refl wr).quiet m os).cellv y4
    have q5:=fun m os=>((Grown.refl wr).quiet m os).cellv y5
    have q6:=fun m os=>((Grown.refl wr).quiet m os).cellv y6
    clear hx hy
    go_wp2
    refine wp_region_quiet_grown mixed (by kernel_rfl) ?_
    repeat (go_big_quiet_step ((go_at_call 57;exact grown_of (HC.out _ _))))
    refine wpQuiet_nil ?_
    intro _ hw'
    obtain ⟨⟨nq,osq⟩,hw''⟩:=hw'
    subst hw''
    go_wp2
    exact ⟨⟨k+1,by go_num,by omega,hG.trans ((Grown.refl wr).quiet _ _)⟩,by simp [intOf];omega⟩
  · have hge:¬ (k:Int)<(n:Int):=by omega
    go_wp2
    go_ret
    exact ⟨rfl,HG0.out.trans hG⟩
theorem flatV_at {α:Type} (f:α→List Value) (m:Nat) (hf:∀ x,(f x).length=m):∀ (l:List α) (j i:Nat) (hj:j<l.length),i<m→(l.flatMap f)[j*m+i]? = (f l[j])[i]?
 | x::l,0,i,_,hi=>by simp only [Nat.zero_mul,Nat.zero_add,List.flatMap_cons,List.getElem_cons_zero];rw [List.getElem?_append_left (by rw [hf];exact hi)]
 | x::l,j+1,i,hj,hi=>by
  have ih:=flatV_at f m hf l j i (by simpa using hj) hi
  have hm:m≤(j+1)*m+i:=by rw [Nat.succ_mul];omega
  rw [List.flatMap_cons,List.getElem?_append_right (by rw [hf];exact hm),hf]
  have e:(j+1)*m+i - m=j*m+i:=by rw [Nat.succ_mul];omega
  rw [e,ih]
  rfl
theorem flatV_len {α:Type} (f:α→List Value) (m:Nat) (hf:∀ x,(f x).length=m) (l:List α):(l.flatMap f).length=l.length*m:=by
 induction l with
 | nil=>simp
 | cons x l ih=>rw [List.flatMap_cons,List.length_append,ih,hf,List.length_cons,Nat.succ_mul];omega
theorem rg_app {a b:List (Int × Int)} {j:Nat} (hj:j<a.length):rg (a++b) j=rg a j:=by simp only [rg];rw [List.getElem?_append_left hj]
theorem own_cut {w:World} {base:Nat} {v:Value} {l:List (Int × Int)} (h:OwnR w base v (l++[(-77,-78)])):Rs w (cut v) l:=by
 have h2:=h
 unfold OwnR at h2
 rw [List.length_append] at h2
 obtain ⟨g,cap,hv,_,_,hc,_⟩:=fl_slice (m:=l.length) h2
 subst hv
 refine ⟨some ⟨g,0,none⟩,cap,rfl,by omega,.inr ⟨g,0,rfl,fun j hj => ?_⟩⟩
 have:=OwnR.reads h j (by simp;omega)
 rw [rg_app hj] at this
 exact this
section
variable {w:World} {base xb:Nat} {pv rv sv gv cv:Value} {G:List It} {S:List (Value × List It)} {C:List (Value × List (Pc × Value))} {R:List LRu} {re:List Value} {n:Nat}
theorem LX.sr (h:LX w base xb pv rv sv gv cv G S C R re n) {x:Value × List It} (hx:x∈S):SR w (cut x.1) (x.2.map Prod.snd):=by
 obtain ⟨⟨mv,_,ho⟩,hi⟩:=h.si x hx
 obtain ⟨g,cap,hv,_,_,hc,_⟩:=fl_slice ho
 rw [hv] at ho ⊢
 refine ⟨some ⟨g,0,none⟩,cap,by simp [cut],by simp;omega,.inr ⟨g,0,rfl,fun j hj => ?_⟩⟩
 have hj2:j<x.2.length:=by simpa using hj
 refine ⟨cut x.2[j].1,?_,?_⟩
 · rw [Nat.zero_add,World.ownsRow.cellAt ho j (by omega),List.getElem?_append_left (by simpa using hj2)]
   simp [hj2]
 · have:=own_cut (h.gi _ (hi x.2[j] (List.getElem_mem hj2)))
   simpa using this
theorem LX.pr (h:LX w base xb pv rv sv gv cv G S C R re n) {x:Value × List (Pc × Value)} (hx:x∈C):PR w (cut x.1) (x.2.map Prod.fst):=by
 obtain ⟨ho,hi⟩:=h.ci x hx
 obtain ⟨g,cap,hv,_,_,hc,_⟩:=fl_slice ho
 rw [hv] at ho ⊢
 refine ⟨some ⟨g,0,none⟩,cap,by simp [cut],by simp;omega,.inr ⟨g,0,rfl,fun j hj => ?_⟩⟩
 have hj2:j<x.2.length:=by simpa using hj
 have at4:∀ i,i<4→w.cell? ⟨g,0+j*4+i,none⟩=([.int .i64 x.2[j].1.k,.int .i64 x.2[j].1.u,.int .i64 x.2[j].1.y,cut x.2[j].2]:List Value)[i]? := fun i hi4=>by
  rw [Nat.zero_add,World.ownsRow.cellAt ho _ (by omega),List.getElem?_append_left (by unfold pcells;rw [flatV_len _ 4 (fun _=>rfl)];omega)]
  exact flatV_at _ 4 (fun _=>rfl) x.2 j i hj2 hi4
 refine ⟨cut x.2[j].2,?_,?_,?_,?_,?_⟩
 · simpa using at4 0 (by omega)
 · simpa using at4 1 (by omega)
 · simpa using at4 2 (by omega)
 · simpa using at4 3 (by omega)
 · have:=own_cut (h.gi _ (hi x.2[j] (List.getElem_mem hj2)))
   simpa using this
theorem LX.psr (h:LX w base xb pv rv sv gv cv G S C R re (R.length+1)) {g c:Nat} (hr:rv = .slice (some ⟨g,0,none⟩) (R.length+1) c):PsR w (.slice (some ⟨g,0,none⟩) R.length c) (R.map LRu.rl):=by
 have ho:=h.r
 rw [hr] at ho
 have hc:R.length+1≤c:=by
  rcases ho.2 with ⟨e,_⟩ | ⟨_,_,_,e,_,_,h2,_⟩
  · cases e
  · injection e with _ _ e;omega
 refine ⟨some ⟨g,0,none⟩,c,by simp,by simp;omega,.inr ⟨g,0,rfl,fun j hj => ?_⟩⟩
 have hj2:j<R.length:=by simpa using hj
 obtain ⟨m1,m2,m3,m4⟩:=h.ri R[j] (List.getElem_mem hj2)
 have at7:∀ i,i<7→w.cell? ⟨g,0+j*7+i,none⟩=R[j].cells[i]? := fun i hi7=>by
  rw [Nat.zero_add,World.ownsRow.cellAt ho _ (by omega),List.getElem?_append_left (by unfold rucells;rw [flatV_len _ 7 (fun _=>rfl)];omega)]
  exact flatV_at _ 7 (fun _=>rfl) R j i hj2 hi7
 rw [List.getElem_map]
 refine ⟨cut R[j].a.1,cut R[j].k.1,cut R[j].p.1,cut R[j].q.1,?_,?_,?_,?_,?_,?_,?_,⟨h.sr m1,h.sr m2,h.sr m3,h.pr m4⟩⟩
 · simpa [LRu.cells,LRu.rl] using at7 0 (by omega)
 · simpa [LRu.cells,LRu.rl] using at7 1 (by omega)
 · simpa [LRu.cells,LRu.rl] using at7 2 (by omega)
 · simpa [LRu.cells,LRu.rl] using at7 3 (by omega)
 · simpa [LRu.cells,LRu.rl] using at7 4 (by omega)
 · simpa [LRu.cells,LRu.rl] using at7 5 (by omega)
 · simpa [LRu.cells,LRu.rl] using at7 6 (by omega)
end
def BT {α:Type} (l:List (Value × α)) (b:Nat):Prop:=∃ x∈l,x.1.ownBlock=some b
theorem BT.take {α:Type} {l:List (Value × α)} {i b:Nat} (h:BT (l.take i) b):BT l b:=by
 obtain ⟨x,hx,e⟩:=h
 exact ⟨x,List.mem_of_mem_take hx,e⟩
theorem BT.succ {α:Type} {l:List (Value × α)} {i b:Nat} (h:BT (l.take i) b):BT (l.take (i+1)) b:=by
 obtain ⟨x,hx,e⟩:=h
 exact ⟨x,by rw [List.take_add_one];exact List.mem_append_left _ hx,e⟩
theorem BT.last {α:Type} {l:List (Value × α)} {i:Nat} (hi:i<l.length) {b:Nat} (h:l[i].1.ownBlock=some b):BT (l.take (i+1)) b:=⟨l[i],by rw [List.take_add_one,List.getElem?_eq_getElem hi];exact List.mem_append_right _ (by simp),h⟩
theorem BT.not {α:Type} {l:List (Value × α)} (hn:(l.map fun x=>x.1.ownBlock).Nodup) {i:Nat} (hi:i<l.length) {b:Nat} (h:l[i].1.ownBlock=some b):¬ BT (l.take i) b:=by
 rintro ⟨x,hx,e⟩
 obtain ⟨j,hj,rfl⟩:=List.getElem_of_mem hx
 rw [List.getElem_take] at e
 have hji:j<i:=by simp at hj;omega
 have:=List.pairwise_iff_getElem.1 hn j i (by simp;omega) (by simpa using hi) hji
 simp at this
 exact this (e.trans h.symm)
theorem own_cell {w:World} {base:Nat} {e:TypeId} {size g n cap:Nat} {xs:List Value} (h:w.ownsRow base e size (.slice (some ⟨g,0,none⟩) n cap) n xs) {j:Nat} (hj:j<n*size):∃ u,w.cell? ⟨g,j,none⟩=some u:=by
 rw [World.ownsRow.cellAt h j hj]
 exact ⟨xs[j]'(by rw [h.1];exact hj),List.getElem?_eq_getElem _⟩
theorem own_max {w:World} {base:Nat} {e:TypeId} {size:Nat} {v:Value} {n:Nat} {xs:List Value} (h:w.ownsRow base e size v n xs):n≤9223372036854775807:=by
 rcases h.2 with ⟨_,h0⟩ | ⟨_,_,_,_,_,_,h1,h2,_⟩
 · omega
 · unfold maxLen at h2;omega
theorem own_form {w:World} {base:Nat} {e:TypeId} {size:Nat} {v:Value} {n:Nat} {xs:List Value} (h:w.ownsRow base e size v n xs) (hn:0<n):∃ g cap,v = .slice (some ⟨g,0,none⟩) n cap∧n≤cap:=by
 rcases h.2 with ⟨_,h0⟩ | ⟨g,cap,cur,rfl,_,_,h3,_⟩
 · omega
 · exact ⟨g,cap,rfl,h3⟩
theorem own_len {w:World} {base:Nat} {e:TypeId} {size:Nat} {v:Value} {n:Nat} {xs:List Value} (h:w.ownsRow base e size v n xs):∃ a cap,v = .slice a n cap:=by
 rcases h.2 with ⟨rfl,rfl⟩ | ⟨g,cap,cur,rfl,_⟩
 · exact ⟨_,_,rfl⟩
 · exact ⟨_,_,rfl⟩
theorem fr_more {w wr W:World} {B:Nat→Prop} (h:Fr w wr B) (k:Grown wr W):Fr w W B:=h.trans (fr_grown k fun _=>False) fun _ _ e=>e.elim
theorem LX.touch {w:World} {base xb:Nat} {pv rv sv gv cv:Value} {G:List It} {S:List (Value × List It)} {C:List (Value × List (Pc × Value))} {R:List LRu} {tl:List Value} {n g:Nat} (h:LX w base xb pv rv sv gv cv G S C R tl n) (hg:rv.ownBlock=some g) {b:Nat} (hb:(BT G b∨BT S b∨BT C b)∨b=g):base≤b∧b<w.heap.size:=by
 rcases hb with (h1 | h1 | h1) | h1
 · obtain ⟨x,hx,e⟩:=h1;exact World.ownsRow.lt (h.gi x hx) b e
 · obtain ⟨x,hx,e⟩:=h1;obtain ⟨⟨_,_,h2⟩,_⟩:=h.si x hx;exact World.ownsRow.lt h2 b e
 · obtain ⟨x,hx,e⟩:=h1;exact World.ownsRow.lt (h.ci x hx).1 b e
 · exact World.ownsRow.lt h.r b (by rw [h1];exact hg)
set_option maxHeartbeats 16000000 in
theorem still_lxF {w:World} {base xb:Nat} {rv sv gv cv:Value} {G:List It} {S:List (Value × List It)} {C:List (Value × List (Pc × Value))} {R:List LRu} {g c N:Nat} {rs:List Rl} (h:LX w base xb (.slice (some ⟨g,0,none⟩) N c) rv sv gv cv G S C R [.bool false,.slice none 0 0,.slice none 0 0,.slice none 0 0,.bool false,.slice none 0 0,.int .i64 (-77)] (N+1)) (hrv:rv = .slice (some ⟨g,0,none⟩) (N+1) c) (hR:R.map LRu.rl=rs) (hN:rs.length=N) (bv:Value) (hb:PsR w bv rs) (hn:N≤1048576) (hz:∀ r∈rs,Go.Proofs.YtaemgkemlifadaaGreatDoor.Small r 1048576) :
 Calls Tryz.prog 12 #[.pointer (some ⟨xb,0,none⟩),.agg #[bv]] w fun e w'=>e = .returned (.bool true)∧Fr w w' (fun b=>(BT G b∨BT S b∨BT C b)∨b=g):=by
 have he:=eql84
 have hRl:R.length=N:=by rw [←hN,←hR];simp
 have hps:PsR w (.slice (some ⟨g,0,none⟩) N c) rs:=by
  have:=LX.psr (w:=w) (base:=base) (xb:=xb) (R:=R) (by rw [hRl];exact h) (g:=g) (c:=c) (by rw [hRl];exact hrv)
  rw [hRl,hR] at this
  exact this
 have HX:Hid (LX w base xb (.slice (some ⟨g,0,none⟩) N c) rv sv gv cv G S C R [.bool false,.slice none 0 0,.slice none 0 0,.slice none 0 0,.bool false,.slice none 0 0,.int .i64 (-77)] (N+1)):=h
 have HSP:Hid (∀ V,Grown w V→Calls Tryz.prog 32 #[.agg #[.slice (some ⟨g,0,none⟩) N c],.agg #[bv]] V fun e w'=>e = .returned (.bool true)∧Grown V w'):=fun V hg=>samePass_eq _ _ rs V (hps.grown hg) (hb.grown hg) (by omega) hz
 obtain ⟨b1,b3,hbv,_,_⟩:=hb
 rw [hN] at hbv
 subst hbv
 have hNI:(N:Int)≤1048576:=by omega
 have hN0:(0:Int)≤(N:Int):=by omega
 have hlast:w.cell? ⟨g,N*7+6,none⟩=some (.int .i64 (-77)):=by
  have ho:=h.r
  rw [hrv] at ho
  rw [World.ownsRow.cellAt ho _ (by omega),List.getElem?_append_right (by unfold rucells;rw [flatV_len _ 7 (fun _=>rfl),hRl];omega)]
  unfold rucells
  rw [flatV_len _ 7 (fun _=>rfl),hRl,show N*7+6 - N*7=6 by omega]
  rfl
 subst hrv
 have hc1:N+1≤c:=by
  rcases h.r.2 with ⟨e,_⟩ | ⟨_,_,_,e,_,_,h2,_⟩
  · cases e
  · injection e with _ _ e;omega
 have c0:w.cell? ⟨xb,0,none⟩=some (.slice (some ⟨g,0,none⟩) N c):=by rw [cell_of h.x];rfl
 have c1:w.cell? ⟨xb,1,none⟩=some (.slice (some ⟨g,0,none⟩) (N+1) c):=by rw [cell_of h.x];rfl
 clear hps h hz
 go_enter Tryz.func12,Tryz.ntmps12
 go_wp2
 obtain ⟨w1,hw1⟩:∃ w1,w1=w.alloc (.cells #[.slice b1 N b3] 24):=⟨_,rfl⟩
 obtain ⟨B,hB⟩:∃ B,w.heap.size=B:=⟨_,rfl⟩
 have HG1:Hid (Grown w w1):=by rw [hw1];exact (Grown.refl _).alloc _
 have q0:w1.cell? ⟨B,0,none⟩=some (.slice b1 N b3):=by rw [hw1,cell_of (new_blk hB)];rfl
 have k0:=fun m os=>((Grown.refl w1).quiet m os).cellv q0
 have k1:=fun m os=>((Grown.refl w1).quiet m os).cellv (HG1.out.cellv c0)
 have k2:=fun m os=>((Grown.refl w1).quiet m os).cellv (HG1.out.cellv c1)
 have k3:=fun m os=>((Grown.refl w1).quiet m os).cellv (HG1.out.cellv hlast)
 have HC:Hid (∀ m os,Calls Tryz.prog 32 #[.agg #[.slice (some ⟨g,0,none⟩) N c],.agg #[.slice b1 N b3]] (Go.Sort.grow (w1.drewN m) os) fun e w'=>e = .returned (.bool true)∧Grown (Go.Sort.grow (w1.drewN m) os) w'):=fun m os=>HSP.out _ (HG1.out.trans ((Grown.refl w1).quiet m os))
 rw [←hw1,hB]
 clear hw1 hB hlast c0 c1
 refine wp_region_quiet_grown mixed (by kernel_rfl) ?_
 repeat (go_big_quiet_step ((go_at_call 32;exact grown_of (HC.out _ _))))
 refine wpQuiet_nil ?_
 intro _ hw'
 obtain ⟨⟨nq,osq⟩,hw''⟩:=hw'
 subst hw''
 have HG2:Hid (Grown w (Go.Sort.grow (w1.drewN nq) osq)):=HG1.out.trans ((Grown.refl w1).quiet _ _)
 generalize Go.Sort.grow (w1.drewN nq) osq=w2 at HG2 ⊢
 clear k0 k1 k2 k3 HC HSP q0 HG1
 go_wp2
 go_loopw [5,6] (fun v5 vi wr=>v5 = .bool true∧∃ i:Nat,vi = .int .i64 i∧i≤G.length∧Hid (Fr w wr (fun b=>BT (G.take i) b))) (fun _ vi _=>G.length - (intOf vi).toNat)
 case atStart=>exact ⟨rfl,0,rfl,Nat.zero_le _,fr_grown HG2.out _⟩
 case round=>
  obtain ⟨rfl,i,rfl,hi,HFR⟩:=hrel
  have hi0:(0:Int)≤(i:Int):=by omega
  have hrow:=own_fr HX.out.g HFR.out (fun b hb h=>by obtain ⟨x,hx,e⟩:=h;exact own_ne HX.out.g (HX.out.gi x (List.mem_of_mem_take hx)) (by decide) hb e)
  have hxb:=keep_blk HFR.out HX.out.x (fun h=>by obtain ⟨x,hx,e⟩:=h;exact HX.out.x_ne (HX.out.gi x (List.mem_of_mem_take hx)) (by decide) e)
  have d3:wr.cell? ⟨xb,3,none⟩=some gv:=by rw [cell_of hxb];rfl
  obtain ⟨lva,lvc,hlv⟩:=own_len hrow
  have hmx:=own_max hrow
  by_cases hlt:i<G.length
  · have hil:=hlt
    have hltI:(i:Int)<(G.length:Int):=by omega
    have hit:w.ownsRow base 84 2 G[i].1 (G[i].2.length+1) (fl (G[i].2++[(-77,-78)])):=by have:=HX.out.gi _ (List.getElem_mem hil);unfold OwnR at this;rw [List.length_append] at this;exact this
    have hit2:=own_fr hit HFR.out (fun b hb h=>by exact BT.not HX.out.ng hil hb h)
    obtain ⟨lg,lcap,hlv2,_⟩:=own_form hrow (by omega)
    have hcell:wr.cell? ⟨lg,i,none⟩=some G[i].1:=by
     rw [hlv2] at hrow
     rw [World.ownsRow.cellAt hrow i (by omega)]
     simp [hil]
    obtain ⟨m,hm⟩:∃ m,G[i].2.length=m:=⟨_,rfl⟩
    have HMM:=Hid.mk' hm
    rw [hm] at hit2
    obtain ⟨ib,icap,hiv,_,_,_,hib⟩:=fl_slice hit2
    rw [hiv] at hit2 hcell
    have hmm:=own_max hit2
    have HIT:=Hid.mk' hit2
    have HLST:Hid (∀ b,b=ib→(fun b=>BT (G.take (i+1)) b) b):=fun b e=>by subst e;exact BT.last hil hib
    have y0:wr.cell? ⟨ib,m*2,none⟩=some (.int .i64 (-77)):=by rw [World.ownsRow.cellAt hit2 _ (by omega),fl_append,List.getElem?_append_right (by rw [fl_length];omega),fl_length,HMM.out,show m*2 - m*2=0 by omega];rfl
    have y1:wr.cell? ⟨ib,m*2+1,none⟩=some (.int .i64 (-78)):=by rw [World.ownsRow.cellAt hit2 _ (by omega),fl_append,List.getElem?_append_right (by rw [fl_length];omega),fl_length,HMM.out,show m*2+1 - m*2=1 by omega];rfl
    have k0:=fun m' os=>((Grown.refl wr).quiet m' os).cellv y0
    have k1:=fun m' os=>((Grown.refl wr).quiet m' os).cellv y1
    have HMK:Hid (∀ m' os,Calls Tryz.prog 33 #[] (Go.Sort.grow (wr.drewN m') os) fun e w'=>e = .returned (.agg #[.int .i64 (-77),.int .i64 (-78)])∧Grown (Go.Sort.grow (wr.drewN m') os) w'):=fun m' os=>mark_any _
    have hmI:(m:Int)+1≤9223372036854775807:=by omega
    rw [hlv2] at d3
    clear hit hit2 hm hiv hib hrow hxb hlv hlv2
    go_wp2
    refine wp_region_quiet_grown mixed (by kernel_rfl) ?_
    repeat (go_big_quiet_step ((go_at_call 33;exact grown_of (HMK.out _ _))))
    refine wpQuiet_nil ?_
    intro _ hw'
    obtain ⟨⟨nq,osq⟩,hw''⟩:=hw'
    subst hw''
    have HIN:Hid (Fr w (Go.Sort.grow (wr.drewN nq) osq) (fun b=>BT (G.take (i+1)) b)∧∃ xs,(Go.Sort.grow (wr.drewN nq) osq).ownsRow base 84 2 (.slice (some ⟨ib,0,none⟩) (m+1) icap) (m+1) xs):=⟨(fr_more HFR.out ((Grown.refl wr).quiet nq osq)).mono (fun _ _ h=>BT.succ h),_,own_fr HIT.out (fr_grown ((Grown.refl wr).quiet nq osq) fun _=>False) fun _ _=>id⟩
    generalize Go.Sort.grow (wr.drewN nq) osq=wI at HIN ⊢
    clear k0 k1 HMK y0 y1
    go_wp2
    go_loopw [8] (fun vk wr=>∃ k:Nat,vk = .int .i64 k∧k≤m+1∧Hid (Fr w wr (fun b=>BT (G.take (i+1)) b)∧∃ xs,wr.ownsRow base 84 2 (.slice (some ⟨ib,0,none⟩) (m+1) icap) (m+1) xs)) (fun vk _=>m+1 - (intOf vk).toNat)
    case atStart=>exact ⟨0,rfl,by omega,HIN⟩
    case round=>
     clear HIN
     obtain ⟨k,rfl,hk,HFk⟩:=hrel
     have hk0:(0:Int)≤(k:Int):=by omega
     obtain ⟨_,xs,hxs⟩:=HFk.out
     by_cases hltk:k<m+1
     · have hltkI:(k:Int)<(m:Int)+1:=by omega
       obtain ⟨u0,z0⟩:=own_cell hxs (j:=k*2) (by omega)
       obtain ⟨u1,z1⟩:=own_cell hxs (j:=k*2+1) (by omega)
       have zf:∀ j,wr.frozen? ⟨ib,j,none⟩=false:=fun j=>World.ownsRow.frozenAt hxs j
       have HO0:=Hid.mk' hxs
       clear hxs
       go_wp2
       have o0:=HO0.out
       have o1:=(World.ownsRow.stored o0 (k*2) (.int .i64 97)).1
       have o2:=(World.ownsRow.stored o1 (k*2+1) (.int .i64 99)).1
       exact ⟨⟨k+1,by go_num,by omega,((HFk.out.1.trans (fr_set _ ib (k*2) (.int .i64 97)) fun _ _ e=>HLST.out _ e).trans (fr_set _ ib (k*2+1) (.int .i64 99)) fun _ _ e=>HLST.out _ e),_,o2⟩,by simp [intOf];omega⟩
     · have hgek:¬ (k:Int)<(m:Int)+1:=by omega
       have HFe:=Hid.mk' HFk.out.1
       clear hxs HFk
       go_wp2
       exact ⟨⟨rfl,i+1,by go_num,by omega,HFe⟩,by simp [intOf];omega⟩
  · have hge:¬ (i:Int)<(G.length:Int):=by omega
    have HEND:Hid (Fr w wr (fun b=>BT G b)):=HFR.out.mono (fun _ _ h=>BT.take h)
    rw [hlv] at d3
    clear hrow hxb hlv HFR
    go_wp2
    clear d3
    go_loopw [5,9] (fun v5 vi wr=>v5 = .bool true∧∃ i:Nat,vi = .int .i64 i∧i≤S.length∧Hid (Fr w wr (fun b=>BT G b∨BT (S.take i) b))) (fun _ vi _=>S.length - (intOf vi).toNat)
    case atStart=>exact ⟨rfl,0,rfl,Nat.zero_le _,HEND.out.mono fun _ _ h => .inl h⟩
    case round=>
     obtain ⟨rfl,i,rfl,hi,HFR⟩:=hrel
     have hi0:(0:Int)≤(i:Int):=by omega
     have hrow:=own_fr HX.out.s HFR.out (fun b hb h=>by
     rcases h with h | h
     · obtain ⟨x,hx,e⟩:=h;exact own_ne HX.out.s (HX.out.gi x hx) (by decide) hb e
     · obtain ⟨x,hx,e⟩:=h;obtain ⟨⟨_,_,h1⟩,_⟩:=HX.out.si x (List.mem_of_mem_take hx);exact own_ne HX.out.s h1 (by decide) hb e)
     have hxb:=keep_blk HFR.out HX.out.x (fun h=>by
     rcases h with h | h
     · obtain ⟨x,hx,e⟩:=h;exact HX.out.x_ne (HX.out.gi x hx) (by decide) e
     · obtain ⟨x,hx,e⟩:=h;obtain ⟨⟨_,_,h1⟩,_⟩:=HX.out.si x (List.mem_of_mem_take hx);exact HX.out.x_ne h1 (by decide) e)
     have d2:wr.cell? ⟨xb,2,none⟩=some sv:=by rw [cell_of hxb];rfl
     obtain ⟨lva,lvc,hlv⟩:=own_len hrow
     have hmx:=own_max hrow
     by_cases hlt:i<S.length
     · have hil:=hlt
       have hltI:(i:Int)<(S.length:Int):=by omega
       obtain ⟨⟨mv,⟨mva,mvc,hmv⟩,hit⟩,_⟩:=HX.out.si _ (List.getElem_mem hil)
       subst hmv
       have hit2:=own_fr hit HFR.out (fun b hb h=>by
     rcases h with h | h
     · obtain ⟨x,hx,e⟩:=h;exact own_ne hit (HX.out.gi x hx) (by decide) hb e
     · exact BT.not (List.nodup_cons.1 HX.out.ns).2 hil hb h)
       obtain ⟨lg,lcap,hlv2,_⟩:=own_form hrow (by omega)
       have hcell:wr.cell? ⟨lg,i,none⟩=some S[i].1:=by
        rw [hlv2] at hrow
        rw [World.ownsRow.cellAt hrow i (by omega)]
        simp [hil]
       obtain ⟨m,hm⟩:∃ m,S[i].2.length=m:=⟨_,rfl⟩
       have HMM:=Hid.mk' hm
       rw [hm] at hit2
       obtain ⟨ib,icap,hiv,_,_,_,hib⟩:=fl_slice hit2
       rw [hiv] at hit2 hcell
       have hmm:=own_max hit2
       have HIT:=Hid.mk' hit2
       have HLST:Hid (∀ b,b=ib→(fun b=>BT G b∨BT (S.take (i+1)) b) b):=fun b e=>by subst e;exact Or.inr (BT.last hil hib)
       have y0:wr.cell? ⟨ib,m,none⟩=some (.slice mva 1 mvc):=by rw [World.ownsRow.cellAt hit2 _ (by omega),List.getElem?_append_right (by simp [HMM.out]),List.length_map,HMM.out,show m - m=0 by omega];rfl
       have hmI:(m:Int)+1≤9223372036854775807:=by omega
       rw [hlv2] at d2
       clear hit hit2 hm hiv hib hrow hxb hlv hlv2
       have HIN:Hid (Fr w wr (fun b=>BT G b∨BT (S.take (i+1)) b)∧∃ xs,wr.ownsRow base 60 1 (.slice (some ⟨ib,0,none⟩) (m+1) icap) (m+1) xs):=⟨HFR.out.mono (fun _ _ h=>h.imp id BT.succ),_,HIT.out⟩
       go_wp2
       go_loopw [11] (fun vk wr=>∃ k:Nat,vk = .int .i64 k∧k≤m+1∧Hid (Fr w wr (fun b=>BT G b∨BT (S.take (i+1)) b)∧∃ xs,wr.ownsRow base 60 1 (.slice (some ⟨ib,0,none⟩) (m+1) icap) (m+1) xs)) (fun vk _=>m+1 - (intOf vk).toNat)
       case atStart=>exact ⟨0,rfl,by omega,HIN⟩
       case round=>
        clear HIN
        obtain ⟨k,rfl,hk,HFk⟩:=hrel
        have hk0:(0:Int)≤(k:Int):=by omega
        obtain ⟨_,xs,hxs⟩:=HFk.out
        by_cases hltk:k<m+1
        · have hltkI:(k:Int)<(m:Int)+1:=by omega
          obtain ⟨u0,z0⟩:=own_cell hxs (j:=k) (by omega)
          have zf:∀ j,wr.frozen? ⟨ib,j,none⟩=false:=fun j=>World.ownsRow.frozenAt hxs j
          have HO0:=Hid.mk' hxs
          clear hxs
          go_wp2
          have o0:=HO0.out
          have o1:=(World.ownsRow.stored o0 (k) (.slice none 0 0)).1
          exact ⟨⟨k+1,by go_num,by omega,(HFk.out.1.trans (fr_set _ ib (k) (.slice none 0 0)) fun _ _ e=>HLST.out _ e),_,o1⟩,by simp [intOf];omega⟩
        · have hgek:¬ (k:Int)<(m:Int)+1:=by omega
          have HFe:=Hid.mk' HFk.out.1
          clear hxs HFk
          go_wp2
          exact ⟨⟨rfl,i+1,by go_num,by omega,HFe⟩,by simp [intOf];omega⟩
     · have hge:¬ (i:Int)<(S.length:Int):=by omega
       have HEND:Hid (Fr w wr (fun b=>BT G b∨BT S b)):=HFR.out.mono (fun _ _ h=>h.imp id BT.take)
       rw [hlv] at d2
       clear hrow hxb hlv HFR
       go_wp2
       clear d2
       go_loopw [5,12] (fun v5 vi wr=>v5 = .bool true∧∃ i:Nat,vi = .int .i64 i∧i≤C.length∧Hid (Fr w wr (fun b=>BT G b∨BT S b∨BT (C.take i) b))) (fun _ vi _=>C.length - (intOf vi).toNat)
       case atStart=>exact ⟨rfl,0,rfl,Nat.zero_le _,HEND.out.mono fun _ _ h=>h.elim (fun h => .inl h) fun h => .inr (.inl h)⟩
       case round=>
        obtain ⟨rfl,i,rfl,hi,HFR⟩:=hrel
        have hi0:(0:Int)≤(i:Int):=by omega
        have hrow:=own_fr HX.out.c HFR.out (fun b hb h=>by
        rcases h with h | h | h
        · obtain ⟨x,hx,e⟩:=h;exact own_ne HX.out.c (HX.out.gi x hx) (by decide) hb e
        · obtain ⟨x,hx,e⟩:=h;obtain ⟨⟨_,_,h1⟩,_⟩:=HX.out.si x hx;exact own_ne HX.out.c h1 (by decide) hb e
        · obtain ⟨x,hx,e⟩:=h;exact own_ne HX.out.c (HX.out.ci x (List.mem_of_mem_take hx)).1 (by decide) hb e)
        have hxb:=keep_blk HFR.out HX.out.x (fun h=>by
        rcases h with h | h | h
        · obtain ⟨x,hx,e⟩:=h;exact HX.out.x_ne (HX.out.gi x hx) (by decide) e
        · obtain ⟨x,hx,e⟩:=h;obtain ⟨⟨_,_,h1⟩,_⟩:=HX.out.si x hx;exact HX.out.x_ne h1 (by decide) e
        · obtain ⟨x,hx,e⟩:=h;exact HX.out.x_ne (HX.out.ci x (List.mem_of_mem_take hx)).1 (by decide) e)
        have d4:wr.cell? ⟨xb,4,none⟩=some cv:=by rw [cell_of hxb];rfl
        obtain ⟨lva,lvc,hlv⟩:=own_len hrow
        have hmx:=own_max hrow
        by_cases hlt:i<C.length
        · have hil:=hlt
          have hltI:(i:Int)<(C.length:Int):=by omega
          have hit:=(HX.out.ci _ (List.getElem_mem hil)).1
          have hit2:=own_fr hit HFR.out (fun b hb h=>by
        rcases h with h | h | h
        · obtain ⟨x,hx,e⟩:=h;exact own_ne hit (HX.out.gi x hx) (by decide) hb e
        · obtain ⟨x,hx,e⟩:=h;obtain ⟨⟨_,_,h1⟩,_⟩:=HX.out.si x hx;exact own_ne hit h1 (by decide) hb e
        · exact BT.not HX.out.nc hil hb h)
          obtain ⟨lg,lcap,hlv2,_⟩:=own_form hrow (by omega)
          have hcell:wr.cell? ⟨lg,i,none⟩=some C[i].1:=by
           rw [hlv2] at hrow
           rw [World.ownsRow.cellAt hrow i (by omega)]
           simp [hil]
          obtain ⟨m,hm⟩:∃ m,C[i].2.length=m:=⟨_,rfl⟩
          have HMM:=Hid.mk' hm
          rw [hm] at hit2
          obtain ⟨ib,icap,hiv,_,_,_,hib⟩:=fl_slice hit2
          rw [hiv] at hit2 hcell
          have hmm:=own_max hit2
          have HIT:=Hid.mk' hit2
          have HLST:Hid (∀ b,b=ib→(fun b=>BT G b∨BT S b∨BT (C.take (i+1)) b) b):=fun b e=>by subst e;exact Or.inr (Or.inr (BT.last hil hib))
          have y0:wr.cell? ⟨ib,m*4,none⟩=some (.int .i64 (-77)):=by rw [World.ownsRow.cellAt hit2 _ (by omega),List.getElem?_append_right (by unfold pcells;rw [flatV_len _ 4 (fun _=>rfl),HMM.out];omega)];unfold pcells;rw [flatV_len _ 4 (fun _=>rfl),HMM.out,show m*4 - m*4=0 by omega];rfl
          have hmI:(m:Int)+1≤9223372036854775807:=by omega
          rw [hlv2] at d4
          clear hit hit2 hm hiv hib hrow hxb hlv hlv2
          have HIN:Hid (Fr w wr (fun b=>BT G b∨BT S b∨BT (C.take (i+1)) b)∧∃ xs,wr.ownsRow base 65 4 (.slice (some ⟨ib,0,none⟩) (m+1) icap) (m+1) xs):=⟨HFR.out.mono (fun _ _ h=>h.imp id (Or.imp id BT.succ)),_,HIT.out⟩
          go_wp2
          go_loopw [14] (fun vk wr=>∃ k:Nat,vk = .int .i64 k∧k≤m+1∧Hid (Fr w wr (fun b=>BT G b∨BT S b∨BT (C.take (i+1)) b)∧∃ xs,wr.ownsRow base 65 4 (.slice (some ⟨ib,0,none⟩) (m+1) icap) (m+1) xs)) (fun vk _=>m+1 - (intOf vk).toNat)
          case atStart=>exact ⟨0,rfl,by omega,HIN⟩
          case round=>
           clear HIN
           obtain ⟨k,rfl,hk,HFk⟩:=hrel
           have hk0:(0:Int)≤(k:Int):=by omega
           obtain ⟨_,xs,hxs⟩:=HFk.out
           by_cases hltk:k<m+1
           · have hltkI:(k:Int)<(m:Int)+1:=by omega
             obtain ⟨u0,z0⟩:=own_cell hxs (j:=k*4) (by omega)
             obtain ⟨u1,z1⟩:=own_cell hxs (j:=k*4+1) (by omega)
             obtain ⟨u2,z2⟩:=own_cell hxs (j:=k*4+2) (by omega)
             obtain ⟨u3,z3⟩:=own_cell hxs (j:=k*4+3) (by omega)
             have zf:∀ j,wr.frozen? ⟨ib,j,none⟩=false:=fun j=>World.ownsRow.frozenAt hxs j
             have HO0:=Hid.mk' hxs
             clear hxs
             go_wp2
             have o0:=HO0.out
             have o1:=(World.ownsRow.stored o0 (k*4) (.int .i64 5)).1
             have o2:=(World.ownsRow.stored o1 (k*4+1) (.int .i64 0)).1
             have o3:=(World.ownsRow.stored o2 (k*4+2) (.int .i64 0)).1
             have o4:=(World.ownsRow.stored o3 (k*4+3) (.slice none 0 0)).1
             exact ⟨⟨k+1,by go_num,by omega,((((HFk.out.1.trans (fr_set _ ib (k*4) (.int .i64 5)) fun _ _ e=>HLST.out _ e).trans (fr_set _ ib (k*4+1) (.int .i64 0)) fun _ _ e=>HLST.out _ e).trans (fr_set _ ib (k*4+2) (.int .i64 0)) fun _ _ e=>HLST.out _ e).trans (fr_set _ ib (k*4+3) (.slice none 0 0)) fun _ _ e=>HLST.out _ e),_,o4⟩,by simp [intOf];omega⟩
           · have hgek:¬ (k:Int)<(m:Int)+1:=by omega
             have HFe:=Hid.mk' HFk.out.1
             clear hxs HFk
             go_wp2
             exact ⟨⟨rfl,i+1,by go_num,by omega,HFe⟩,by simp [intOf];omega⟩
        · have hge:¬ (i:Int)<(C.length:Int):=by omega
          have HEND:Hid (Fr w wr (fun b=>BT G b∨BT S b∨BT C b)):=HFR.out.mono (fun _ _ h=>h.imp id (Or.imp id BT.take))
          rw [hlv] at d4
          clear hrow hxb hlv HFR
          go_wp2
          clear d4
          have HRW:Hid (∃ xs,wr.ownsRow base 53 7 (.slice (some ⟨g,0,none⟩) (N+1) c) (N+1) xs):=⟨_,own_fr HX.out.r HEND.out (fun b hb h=>by
           rcases h with h | h | h
           · obtain ⟨x,hx,e⟩:=h;exact own_ne HX.out.r (HX.out.gi x hx) (by decide) hb e
           · obtain ⟨x,hx,e⟩:=h;obtain ⟨⟨_,_,h1⟩,_⟩:=HX.out.si x hx;exact own_ne HX.out.r h1 (by decide) hb e
           · obtain ⟨x,hx,e⟩:=h;exact own_ne HX.out.r (HX.out.ci x hx).1 (by decide) hb e)⟩
          go_loopw [15] (fun vk wr=>∃ k:Nat,vk = .int .i64 k∧k≤N+1∧Hid (Fr w wr (fun b=>(BT G b∨BT S b∨BT C b)∨b=g)∧∃ xs,wr.ownsRow base 53 7 (.slice (some ⟨g,0,none⟩) (N+1) c) (N+1) xs)) (fun vk _=>N+1 - (intOf vk).toNat)
          case atStart=>exact ⟨0,rfl,by omega,HEND.out.mono fun _ _ h => .inl h,HRW.out⟩
          case round=>
           obtain ⟨k,rfl,hk,HFk⟩:=hrel
           have hk0:(0:Int)≤(k:Int):=by omega
           obtain ⟨_,xs,hxs⟩:=HFk.out
           have hxb:=keep_blk HFk.out.1 HX.out.x (fun h=>by
            rcases h with (h | h | h) | h
            · obtain ⟨x,hx,e⟩:=h;exact HX.out.x_ne (HX.out.gi x hx) (by decide) e
            · obtain ⟨x,hx,e⟩:=h;obtain ⟨⟨_,_,h1⟩,_⟩:=HX.out.si x hx;exact HX.out.x_ne h1 (by decide) e
            · obtain ⟨x,hx,e⟩:=h;exact HX.out.x_ne (HX.out.ci x hx).1 (by decide) e
            · exact HX.out.x_ne HX.out.r (by decide) (by rw [h];rfl))
           have d1:wr.cell? ⟨xb,1,none⟩=some (.slice (some ⟨g,0,none⟩) (N+1) c):=by rw [cell_of hxb];rfl
           by_cases hltk:k<N+1
           · have hltkI:(k:Int)<(N:Int)+1:=by omega
             obtain ⟨u0,z0⟩:=own_cell hxs (j:=k*7) (by omega)
             obtain ⟨u1,z1⟩:=own_cell hxs (j:=k*7+1) (by omega)
             obtain ⟨u2,z2⟩:=own_cell hxs (j:=k*7+2) (by omega)
             obtain ⟨u3,z3⟩:=own_cell hxs (j:=k*7+3) (by omega)
             obtain ⟨u4,z4⟩:=own_cell hxs (j:=k*7+4) (by omega)
             obtain ⟨u5,z5⟩:=own_cell hxs (j:=k*7+5) (by omega)
             obtain ⟨u6,z6⟩:=own_cell hxs (j:=k*7+6) (by omega)
             have zf:∀ j,wr.frozen? ⟨g,j,none⟩=false:=fun j=>World.ownsRow.frozenAt hxs j
             have HO0:=Hid.mk' hxs
             clear hxs hxb
             go_wp2
             have o0:=HO0.out
             have o1:=(World.ownsRow.stored o0 (k*7) (.bool false)).1
             have o2:=(World.ownsRow.stored o1 (k*7+1) (.slice none 0 0)).1
             have o3:=(World.ownsRow.stored o2 (k*7+2) (.slice none 0 0)).1
             have o4:=(World.ownsRow.stored o3 (k*7+3) (.slice none 0 0)).1
             have o5:=(World.ownsRow.stored o4 (k*7+4) (.bool false)).1
             have o6:=(World.ownsRow.stored o5 (k*7+5) (.slice none 0 0)).1
             have o7:=(World.ownsRow.stored o6 (k*7+6) (.int .i64 5)).1
             exact ⟨⟨k+1,by go_num,by omega,(((((((HFk.out.1.trans (fr_set _ g (k*7) (.bool false)) fun _ _ e => .inr e).trans (fr_set _ g (k*7+1) (.slice none 0 0)) fun _ _ e => .inr e).trans (fr_set _ g (k*7+2) (.slice none 0 0)) fun _ _ e => .inr e).trans (fr_set _ g (k*7+3) (.slice none 0 0)) fun _ _ e => .inr e).trans (fr_set _ g (k*7+4) (.bool false)) fun _ _ e => .inr e).trans (fr_set _ g (k*7+5) (.slice none 0 0)) fun _ _ e => .inr e).trans (fr_set _ g (k*7+6) (.int .i64 5)) fun _ _ e => .inr e),_,o7⟩,by simp [intOf];omega⟩
           · have hgek:¬ (k:Int)<(N:Int)+1:=by omega
             have HFe:Hid (Fr w wr (fun b=>(BT G b∨BT S b∨BT C b)∨b=g)):=HFk.out.1
             clear hxs hxb HFk
             go_wp2
             go_ret
             exact ⟨rfl,HFe.out⟩
set_option maxHeartbeats 2000000 in
theorem in_walk (A:Option Addr) (c:Nat) (l:List (Int × Int)) (u:Int) (w:World) (h:l=[]∨∃ g o,A=some ⟨g,o,none⟩∧Reads w g o l) (hn:l.length≤1152921504606846976) :
 Calls Tryz.prog 122 #[.slice A l.length c,.int .i64 u] w fun e w'=>e = .returned (.bool (decide (hasU l u)))∧Grown w w':=by
 obtain ⟨n,hnn⟩:∃ n,l.length=n:=⟨_,rfl⟩
 have HN:Hid (l.length=n):=hnn
 have HH:Hid (l=[]∨∃ g o,A=some ⟨g,o,none⟩∧Reads w g o l):=h
 rw [hnn] at hn ⊢
 obtain ⟨r,hr⟩:∃ r:Bool,decide (hasU l u)=r:=⟨_,rfl⟩
 have HR:Hid (decide (hasU l u)=r):=hr
 rw [hr]
 clear hr hnn h
 go_enter Tryz.func122,Tryz.ntmps122
 go_wp2
 go_loopw [5] (fun vi wr=>∃ k:Nat,vi = .int .i64 k∧k≤n∧Hid (∀ j,j<k→¬ ((rg l j).1≤u∧u≤(rg l j).2))∧Grown w wr) (fun vi _=>n - (intOf vi).toNat)
 case atStart=>exact ⟨0,rfl,by omega,fun j hj=>by omega,Grown.refl _⟩
 case round=>
  obtain ⟨k,rfl,hk,hT,hG⟩:=hrel
  have hpos:(0:Int)≤(k:Int):=by omega
  by_cases hlt:k<n
  · have hlt':(k:Int)<(n:Int):=by omega
    have hkl:k<l.length:=by rw [HN.out];exact hlt
    obtain ⟨g,o,hA,hr1⟩:=HH.out.resolve_left (fun e=>by rw [e] at hkl;simp at hkl)
    subst hA
    obtain ⟨p,q,hpq⟩:∃ p q:Int,rg l k=(p,q):=⟨_,_,rfl⟩
    have x1:=hr1 k hkl
    rw [hpq] at x1
    have cp:=hG.cellv x1.1
    have cq:=hG.cellv x1.2
    simp only at cp cq
    have HNx:Hid (¬ (p≤u∧u≤q)→∀ j,j<k+1→¬ ((rg l j).1≤u∧u≤(rg l j).2)):=fun hno j hj=>by
     by_cases e:j=k
     · subst e;rw [hpq];exact hno
     · exact hT.out j (by omega)
    have HYs:Hid ((p≤u∧u≤q)→r=true):=fun hy=>by
     rw [←HR.out,decide_eq_true_eq,hasU_iff]
     exact ⟨k,hkl,by rw [hpq];exact hy⟩
    clear x1 hr1 hpq hT
    by_cases h1:p≤u
    · by_cases h2:u≤q
      · have HF:Hid (r=true):=HYs.out ⟨h1,h2⟩
        clear HNx HYs
        go_wp2
        go_ret
        have hrf:=HF.out
        exact ⟨by first | rfl | (rw [hrf];rfl),hG⟩
      · have HX:Hid (∀ j,j<k+1→¬ ((rg l j).1≤u∧u≤(rg l j).2)):=HNx.out (fun h=>h2 h.2)
        have d2:decide (u≤q)=false:=by simpa using h2
        clear HNx HYs
        go_wp2
        exact ⟨⟨k+1,by go_num,by omega,HX,hG⟩,by simp [intOf];omega⟩
    · have HX:Hid (∀ j,j<k+1→¬ ((rg l j).1≤u∧u≤(rg l j).2)):=HNx.out (fun h=>h1 h.1)
      have d1:decide (p≤u)=false:=by simpa using h1
      clear HNx HYs
      go_wp2
      exact ⟨⟨k+1,by go_num,by omega,HX,hG⟩,by simp [intOf];omega⟩
  · have hge:¬ (k:Int)<(n:Int):=by omega
    have hrt:r=false:=by
     rw [←HR.out,decide_eq_false_iff_not,hasU_iff]
     rintro ⟨j,hj,h1⟩
     exact hT.out j (by rw [HN.out] at hj;omega) h1
    have HF:Hid (r=false):=hrt
    clear hT hrt
    go_wp2
    go_ret
    have hrf:=HF.out
    exact ⟨by first | rfl | (rw [hrf];rfl),hG⟩
theorem in_any (v:Value) (l:List (Int × Int)) (u:Int) (w:World) (h:Rs w v l) (hn:l.length≤1152921504606846976):Calls Tryz.prog 122 #[v,.int .i64 u] w fun e w'=>e = .returned (.bool (decide (hasU l u)))∧Grown w w':=by
 obtain ⟨A,c,rfl,_,h⟩:=h
 exact in_walk A c l u w h hn
set_option maxHeartbeats 2000000 in
theorem rstands_many (a b:Option Addr) (n c m d:Nat) (w:World) (h:n≠m):Calls Tryz.prog 105 #[.slice a n c,.slice b m d] w fun e w'=>e = .returned (.bool false)∧Grown w w':=by
 have h':((n:Int) != (m:Int))=true:=by simp;omega
 go_enter Tryz.func105,Tryz.ntmps105
 go_wp2
 go_ret
 exact ⟨rfl,Grown.refl _⟩
set_option maxHeartbeats 2000000 in
theorem rstands_nil (a b:Option Addr) (c d:Nat) (w:World):Calls Tryz.prog 105 #[.slice a 0 c,.slice b 0 d] w fun e w'=>e = .returned (.bool true)∧Grown w w':=by
 go_enter Tryz.func105,Tryz.ntmps105
 go_wp2
 go_loopw [5] (fun vi wr=>vi = .int .i64 0∧wr=w) (fun _ _=>0)
 case atStart=>exact ⟨rfl,rfl⟩
 case round=>
  obtain ⟨rfl,rfl⟩:=hrel
  go_wp2
  go_ret
  exact ⟨rfl,Grown.refl _⟩
set_option maxHeartbeats 4000000 in
theorem rstands_walk (g o c g2 o2 d:Nat) (ls:List (List (Int × Int))) (us:List Int) (w:World) (h:SRd w g o ls) (h2:IRd w g2 o2 us) (hn1:ls.length≤1000000) (hv:ls.all okS=true) (hl:ls.length=us.length) :
 Calls Tryz.prog 105 #[.slice (some ⟨g2,o2,none⟩) us.length d,.slice (some ⟨g,o,none⟩) ls.length c] w fun e w'=>e = .returned (.bool ((ls.zip us).all fun x=>hasB x.1 x.2))∧Grown w w':=by
 obtain ⟨n,hnn⟩:∃ n,ls.length=n:=⟨_,rfl⟩
 have HN:Hid (ls.length=n):=hnn
 have HN2:Hid (us.length=n):=by rw [←hl];exact hnn
 have HZ:Hid ((ls.zip us).length=n):=by show _=_;rw [List.length_zip,HN.out,HN2.out,Nat.min_self]
 rw [←hl,hnn]
 rw [hnn] at hn1
 obtain ⟨r,hr⟩:∃ r:Bool,((ls.zip us).all fun x=>hasB x.1 x.2)=r:=⟨_,rfl⟩
 have HR:Hid (((ls.zip us).all fun x=>hasB x.1 x.2)=r):=hr
 rw [hr]
 have HV:Hid (ls.all okS=true):=hv
 have hm:=mixed
 clear hr hnn hl hv
 have HH:Hid (SRd w g o ls):=h
 have HI:Hid (IRd w g2 o2 us):=h2
 clear h h2
 go_enter Tryz.func105,Tryz.ntmps105
 go_wp2
 go_loopw [5] (fun vi wr=>∃ k:Nat,vi = .int .i64 k∧k≤n∧Hid (((ls.zip us).take k).all (fun x=>hasB x.1 x.2)=true)∧Grown w wr) (fun vi _=>n - (intOf vi).toNat)
 case atStart=>exact ⟨0,rfl,by omega,by simp [Hid],Grown.refl _⟩
 case round=>
  obtain ⟨k,rfl,hk,hG,hB⟩:=hrel
  have hpos:(0:Int)≤(k:Int):=by omega
  by_cases hlt:k<n
  · have hlt':(k:Int)<(n:Int):=by omega
    have hkl:k<ls.length:=by rw [HN.out];exact hlt
    have hku:k<us.length:=by rw [HN2.out];exact hlt
    have hkz:k<(ls.zip us).length:=by rw [HZ.out];exact hlt
    obtain ⟨sv,hc,hs⟩:=HH.out k hkl
    have hi:=hB.cellv (HI.out k hku)
    have hok:=List.all_eq_true.1 HV.out ls[k] (List.getElem_mem hkl)
    have hval:validB ls[k]=true:=by simp only [okS,Bool.and_eq_true] at hok;exact hok.1
    have hlen:ls[k].length≤1152921504606846976:=by have:=((validB_iff _).1 hval).1;omega
    have HC:Hid (∀ m os,Calls Tryz.prog 122 #[sv,.int .i64 us[k]] (Go.Sort.grow (wr.drewN m) os) fun e w'=>e = .returned (.bool (hasB ls[k] us[k]))∧Grown (Go.Sort.grow (wr.drewN m) os) w'):=fun m os=>by
     have:=in_any sv ls[k] us[k] _ (hs.grown (hB.quiet m os)) hlen
     have e:hasB ls[k] us[k]=decide (hasU ls[k] us[k]):=by simp [hasB,hval]
     rw [e];exact this
    obtain ⟨sa,sn,sc,rfl⟩:=hs.sl
    have f1:∀ m os,(Go.Sort.grow (wr.drewN m) os).cell? ⟨g,o+k,none⟩=some (.slice sa sn sc):=fun m os=>(hB.quiet m os).cellv hc
    have f2:∀ m os,(Go.Sort.grow (wr.drewN m) os).cell? ⟨g2,o2+k,none⟩=some (.int .i64 us[k]):=fun m os=>((Grown.refl _).quiet m os).cellv hi
    have hz:(ls.zip us)[k]=(ls[k],us[k]):=List.getElem_zip
    by_cases hv:hasB ls[k] us[k]=true
    · have HS:Hid (((ls.zip us).take (k+1)).all (fun x=>hasB x.1 x.2)=true):=by show _=true;rw [all_succ _ hkz,hG.out,hz];exact hv
      rw [hv] at HC
      generalize us[k]=u at HC f2
      clear hs hv hG hz hc hi hok hval hlen
      go_wp2
      refine wp_region_quiet_grown hm (by kernel_rfl) ?_
      repeat (go_big_quiet_step ((go_at_call 122;exact grown_of (HC.out _ _))))
      refine wpQuiet_nil ?_
      intro _ hw'
      obtain ⟨⟨nq,osq⟩,hw''⟩:=hw'
      subst hw''
      go_wp2
      exact ⟨⟨k+1,by go_num,by omega,HS,hB.quiet _ _⟩,by simp [intOf];omega⟩
    · have hv':hasB ls[k] us[k]=false:=by simpa using hv
      have HF:Hid (r=false):=by rw [←HR.out];exact all_stop _ hkz (by rw [hz];exact hv')
      rw [hv'] at HC
      generalize us[k]=u at HC f2
      clear hs hv hv' hG hz hc hi hok hval hlen
      go_wp2
      refine wp_region_quiet_grown hm (by kernel_rfl) ?_
      repeat (go_big_quiet_step ((go_at_call 122;exact grown_of (HC.out _ _))))
      refine wpQuiet_nil ?_
      intro _ hw'
      obtain ⟨⟨nq,osq⟩,hw''⟩:=hw'
      subst hw''
      go_wp2
      go_ret
      have hrf:=HF.out
      exact ⟨by first | rfl | (rw [hrf];rfl),hB.quiet _ _⟩
  · have hge:¬ (k:Int)<(n:Int):=by omega
    have hrt:r=true:=by
     rw [←HR.out]
     have:=hG.out
     rwa [List.take_of_length_le (by rw [HZ.out];omega)] at this
    have HF:Hid (r=true):=hrt
    clear hG hrt
    go_wp2
    go_ret
    have hrf:=HF.out
    exact ⟨by first | rfl | (rw [hrf];rfl),hB⟩
theorem rstands_any (v uv:Value) (ls:List (List (Int × Int))) (us:List Int) (w:World) (h:SR w v ls) (h2:IR w uv us) (hn:ls.length≤1000000) (hv:ls.all okS=true):Calls Tryz.prog 105 #[uv,v] w fun e w'=>e = .returned (.bool (stB ls us))∧Grown w w':=by
 obtain ⟨a,cap,rfl,_,h⟩:=h
 obtain ⟨b,cap2,rfl,_,h2⟩:=h2
 unfold stB
 by_cases hl:ls.length=us.length
 · rw [decide_eq_true hl,Bool.true_and]
   rcases h with rfl | ⟨g,o,rfl,h⟩
   · obtain rfl:us=[]:=List.eq_nil_of_length_eq_zero (by simpa using hl.symm)
     exact rstands_nil b a cap2 cap w
   · rcases h2 with rfl | ⟨g2,o2,rfl,h2⟩
     · obtain rfl:ls=[]:=List.eq_nil_of_length_eq_zero (by simpa using hl)
       exact rstands_nil b _ cap2 cap w
     · exact rstands_walk g o cap g2 o2 cap2 ls us w h h2 hn hv hl
 · rw [decide_eq_false hl,Bool.false_and]
   exact rstands_many b a _ cap2 _ cap w (fun e=>hl e.symm)
def nthV (r:Option Int):Value := .tuple #[.int .i64 (r.getD 0),.bool r.isSome]
def partU (f t:List (Int × Int)) (u:Int):Int:=(nthU t (if hasB f u then placeU f u else 0)).getD 0
theorem place_bound {l:List (Int × Int)} (hv:validB l=true) {u:Int} (hu:hasU l u):0≤placeU l u∧placeU l u≤9223372036854775807:=by
 have hv':=(validB_iff l).1 hv
 have h1:=(nth_place hv'.2 hu).2
 refine ⟨h1,?_⟩
 have hlt:fnd l u<l.length:=by
  have h1:=fnd_le l u
  by_cases e:fnd l u=l.length
  · exact absurd hu (hasU_end hv'.2 e)
  · omega
 have h2:=(hasU_in hv'.2 hlt).1 hu
 have h3:¬ (rg l (fnd l u)).2<u:=fun e=>by have:=(fnd_lt hv'.2 u hlt).2 e;omega
 have h4:=(good_at hv'.2 hlt).2
 have h5:=(good_at hv'.2 hlt).1
 have h6:=tot_bound (l:=l.take (fnd l u)) (fun x hx=>hv'.2.1 x (List.mem_of_mem_take hx))
 rw [List.length_take] at h6
 have h7:=hv'.1
 unfold placeU
 omega
def unitAt (us:List Int) (y:Int):Int:=us[y.toNat]?.getD 0
def wrt (key:List (List (Int × Int))) (us:List Int) (p:Pc):Int:=
 if p.k=3 then partU (keyAt key p.y) p.tl (unitAt us p.y) else if p.k=2 then unitAt us p.y else p.u
def layB (r:Rl) (us:List Int):Bool:=decide (chk r=0) && stB r.key us
def outs (r:Rl) (us:List Int):List Int:=r.res.map (wrt r.key us)
theorem st_len {ls:List (List (Int × Int))} {us:List Int} (h:stB ls us=true):ls.length=us.length:=by
 simp only [stB,Bool.and_eq_true,decide_eq_true_eq] at h
 exact h.1
theorem IR.drop {w:World} {a:Option Addr} {n c cn:Nat} {l:List Int} (h:IR w (.slice a n c) l) (hl:l.length=n) (hcn:cn≤n):IR w (.slice (a.map fun x=>x.add cn) (n - cn) (c - cn)) (l.drop cn):=by
 obtain ⟨a',c',e,hc,h⟩:=h
 injection e with e1 e2 e3
 subst e1 e3
 refine ⟨_,c - cn,by rw [List.length_drop,hl],by rw [List.length_drop];omega,?_⟩
 rcases h with rfl | ⟨g,o,rfl,h⟩
 · exact .inl (by simp)
 · refine .inr ⟨g,o+cn,?_,fun j hj => ?_⟩
   · simp only [Option.map_some,Option.some.injEq]
     unfold Addr.add
     split <;> simp_all
   · rw [List.length_drop] at hj
     have:=h (cn+j) (by omega)
     rw [List.getElem_drop,Nat.add_assoc]
     exact this
theorem outs_succ {r:Rl} {us:List Int} {k:Nat} (hk:k<r.res.length):(outs r us).take (k+1)=(outs r us).take k++[wrt r.key us r.res[k]]:=by
 have:k<(outs r us).length:=by simpa [outs] using hk
 rw [List.take_succ_eq_append_getElem this]
 simp [outs]
end Go.Proofs
