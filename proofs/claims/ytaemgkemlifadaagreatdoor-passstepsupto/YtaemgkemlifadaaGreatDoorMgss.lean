/-
  Several texts in one (Cd Tv Ua2 Tw Tx Ur2 Gq Gj).
-/
import Derived.Test.YtaemgkemlifadaaGreatDoorGis
import Derived.Test.YtaemgkemlifadaaGreatDoorMgrs
import Derived.Test.YtaemgkemlifadaaGreatDoorMgqs
import Derived.Test.YtaemgkemlifadaaGreatDoorMges
import Derived.Test.YtaemgkemlifadaaGreatDoorMgjs
namespace Go.Proofs
open Go.RowKit Go.Shelf
set_option maxRecDepth 100000
attribute [local go_sem] Oper.semAt_some
attribute [local go_sem ↓] Go.wp_at_zero Go.wp_at_succ
theorem pr_vals {w:World} {A:Option Addr} {n c:Nat} {ps:List Pc} (h:PR w (.slice A n c) ps):∃ H:Nat→Value,∀ j,(hj:j<ps.length)→(∀ i,i<4→∃ g o,A=some ⟨g,o,none⟩∧w.cell? ⟨g,o+(j*4+i),none⟩=some (H (j*4+i)))∧H (j*4) = .int .i64 ps[j].k∧H (j*4+1) = .int .i64 ps[j].u∧H (j*4+2) = .int .i64 ps[j].y∧Rs w (H (j*4+3)) ps[j].tl:=by
 obtain ⟨a',c',e,h1,h2⟩:=h
 injection e with e1 e2 e3
 subst e1 e2 e3
 by_cases h0:ps=[]
 · subst h0
   exact ⟨fun _=>undef,fun j hj=>by simp at hj⟩
 · obtain ⟨g,o,rfl,hd⟩:=h2.resolve_left h0
   have hd':∀ (j:Nat) (hj:j<ps.length),∃ tv,w.cell? ⟨g,o+j*4,none⟩=some (.int .i64 ps[j].k)∧w.cell? ⟨g,o+j*4+1,none⟩=some (.int .i64 ps[j].u)∧w.cell? ⟨g,o+j*4+2,none⟩=some (.int .i64 ps[j].y)∧w.cell? ⟨g,o+j*4+3,none⟩=some tv∧Rs w tv ps[j].tl:=hd
   obtain ⟨H,hH⟩:∃ H:Nat→Value,∀ i v,w.cell? ⟨g,o+i,none⟩=some v→H i=v:=⟨fun i=>(w.cell? ⟨g,o+i,none⟩).getD undef,fun i v h=>by simp [h]⟩
   refine ⟨H,fun j hj => ?_⟩
   obtain ⟨tv,k0,k1,k2,k3,k4⟩:=hd' j hj
   rw [Nat.add_assoc] at k1 k2 k3
   have e0:=hH _ _ k0
   have e1:=hH _ _ k1
   have e2:=hH _ _ k2
   have e3:=hH _ _ k3
   refine ⟨fun i hi=>⟨g,o,rfl,?_⟩,e0,e1,e2,by rw [e3];exact k4⟩
   have:i=0∨i=1∨i=2∨i=3:=by omega
   rcases this with rfl | rfl | rfl | rfl
   · rw [Nat.add_zero,e0];exact k0
   · rw [e1];exact k1
   · rw [e2];exact k2
   · rw [e3];exact k3
structure IP (w wr W:World) (sz base gR N:Nat) (G5:Nat→Value) (A K P:Value) (r:Rl) (q1:Option Addr) (n5 q3:Nat) (H:Nat→Value) (rb:Nat) (box:Obj) (m:Nat):Prop where
 row:RowB W gR 53 G5 N
 ra:Rob (fun i=>i<base∨i=gR∨sz≤i) W fun V=>SR V A r.ante
 rk:Rob (fun i=>i<base∨i=gR∨sz≤i) W fun V=>SR V K r.key
 rp:Rob (fun i=>i<base∨i=gR∨sz≤i) W fun V=>SR V P r.post
 bel:Below base w W
 fr:Fr wr W fun i=>i=gR
 box:W.heap[rb]? = some box
 pc:n5=0∨∃ gP,q1=some ⟨gP,0,none⟩∧n5≤q3∧base≤gP∧sz≤gP∧wr.heap.size≤gP∧gP≠gR∧gP≠rb∧∃ H',RowB W gP 65 H' (n5*4)∧(∀ j,(hj:j<r.res.length)→j<m→Rob (fun i=>i<base∨i=gR∨i=gP) W fun V=>Rs V (H' (j*4+3)) r.res[j].tl)∧(∀ j,m≤j→H' (j*4+3)=H (j*4+3))∧∀ j,H' (j*4)=H (j*4)∧H' (j*4+1)=H (j*4+1)∧H' (j*4+2)=H (j*4+2)
theorem pcE_tl {ks:List (List (Int × Int))} {p:Pc} (h:pcE ks p=0):p.tl.length≤512:=by
 unfold pcE at h
 by_cases h1:p.k=1
 · rw [if_pos h1] at h
   by_cases h2:wd p.u=0∨p.y≠0∨p.tl≠[]
   · rw [if_pos h2] at h;cases h
   · have:p.tl=[]:=by
      by_cases e:p.tl=[]
      · exact e
      · exact absurd (.inr (.inr e)) h2
     rw [this];simp
 · rw [if_neg h1] at h
   by_cases h2:p.k=2∨p.k=3
   · rw [if_pos h2] at h
     by_cases h3:p.u≠0∨(p.k=2∧p.tl≠[])
     · rw [if_pos h3] at h;cases h
     · rw [if_neg h3] at h
       by_cases h4:p.y<0∨(ks.length:Int)≤p.y
       · rw [if_pos h4] at h;cases h
       · rw [if_neg h4] at h
         by_cases h5:p.k=3∧matB (keyAt ks p.y) p.tl=false
         · rw [if_pos h5] at h;cases h
         · rcases h2 with h2 | h2
           · have:p.tl=[]:=by
              by_cases e:p.tl=[]
              · exact e
              · exact absurd (.inr ⟨h2,e⟩) h3
             rw [this];simp
           · have hm:matB (keyAt ks p.y) p.tl=true:=by
              cases e:matB (keyAt ks p.y) p.tl with
              | true=>rfl
              | false=>exact absurd ⟨h2,e⟩ h5
             simp only [matB,validB,Bool.and_eq_true] at hm
             have:=hm.1
             simp at this
             omega
   · rw [if_neg h2] at h;cases h
theorem updF_at (F:Nat→Value) (i:Nat) (u:Value):updF F i u i=u:=by simp [updF]
theorem updF_ne (F:Nat→Value) {i j:Nat} (u:Value) (h:j≠i):updF F i u j=F j:=by simp [updF,h]
set_option maxHeartbeats 8000000 in
theorem ownRules_some (rg ro c:Nat) (rs:List Rl) (w:World) (hR:∀ (j:Nat) (hj:j<rs.length),RAt w rg (ro+j*7) rs[j]) (hn:rs.length≤256) (h0:rs≠[]) (hO:∀ r∈rs,Ok r) :
 Calls Tryz.prog 34 #[.slice (some ⟨rg,ro,none⟩) rs.length c] w fun e w'=>∃ v',e = .returned v'∧Rob (fun k=>k<w.heap.size) w' (fun W=>PsR W v' rs)∧Below w.heap.size w w':=by
 obtain ⟨n,hN⟩:∃ n,rs.length=n:=⟨_,rfl⟩
 have HN:=Hid.mk' hN
 have hn0:n≠0:=fun e=>h0 (List.eq_nil_of_length_eq_zero (by omega))
 obtain ⟨F,hF⟩:∃ F:Nat→Value,∀ j (hj:j<rs.length),(∀ i,i<7→w.cell? ⟨rg,ro+(j*7+i),none⟩=some (F (j*7+i)))∧RulV w F j rs[j]:=by
  obtain ⟨F,hF⟩:∃ F:Nat→Value,∀ i v,w.cell? ⟨rg,ro+i,none⟩=some v→F i=v:=⟨fun i=>(w.cell? ⟨rg,ro+i,none⟩).getD undef,fun i v h=>by simp [h]⟩
  refine ⟨F,fun j hj => ?_⟩
  obtain ⟨av,kv,pv,rv,k0,k1,k2,k3,k4,k5,k6,hRR⟩:=hR j hj
  rw [Nat.add_assoc] at k1 k2 k3 k4 k5 k6
  have e0:=hF _ _ k0
  have e1:=hF _ _ k1
  have e2:=hF _ _ k2
  have e3:=hF _ _ k3
  have e4:=hF _ _ k4
  have e5:=hF _ _ k5
  have e6:=hF _ _ k6
  refine ⟨fun i hi => ?_,e0,e4,e6,by rw [e1,e2,e3,e5];exact hRR⟩
  have:i=0∨i=1∨i=2∨i=3∨i=4∨i=5∨i=6:=by omega
  rcases this with rfl | rfl | rfl | rfl | rfl | rfl | rfl
  · rw [Nat.add_zero,e0];exact k0
  · rw [e1];exact k1
  · rw [e2];exact k2
  · rw [e3];exact k3
  · rw [e4];exact k4
  · rw [e5];exact k5
  · rw [e6];exact k6
 have HF:=Hid.mk' hF
 have HC:Hid (Calls Tryz.prog 58 #[.slice (some ⟨rg,ro,none⟩) n c] w fun e w'=>∃ v',e = .returned v'∧w'.ownsRow w.heap.size 53 7 v' n ((List.range (n*7)).map F)∧Below w.heap.size w w'):=by
  refine clone58 w _ n c _ (fun e=>by cases e) (by simp) (fun j u hj => ?_) (fun u hu => ?_) (by omega)
  · obtain ⟨hj1,rfl⟩:=map_range_at F (n*7) j u hj
    refine ⟨_,rfl,?_⟩
    have:=(hF (j / 7) (by omega)).1 (j % 7) (by omega)
    rw [show j / 7*7+j % 7=j by omega] at this
    rw [add_none]
    exact this
  · obtain ⟨j,hj,rfl⟩:=List.mem_map.1 hu
    have hj:=List.mem_range.1 hj
    obtain ⟨v0,v4,v6,hRR⟩:=(hF (j / 7) (by omega)).2
    have:j % 7=0∨j % 7=1∨j % 7=2∨j % 7=3∨j % 7=4∨j % 7=5∨j % 7=6:=by omega
    rcases this with h | h | h | h | h | h | h
    · rw [show j=j / 7*7 by omega,v0];rfl
    · rw [show j=j / 7*7+1 by omega];exact isSl_one hRR.a.sl
    · rw [show j=j / 7*7+2 by omega];exact isSl_one hRR.k.sl
    · rw [show j=j / 7*7+3 by omega];exact isSl_one hRR.p.sl
    · rw [show j=j / 7*7+4 by omega,v4];rfl
    · rw [show j=j / 7*7+5 by omega];exact isSl_one hRR.r.sl
    · rw [show j=j / 7*7+6 by omega,v6];rfl
 rw [hN]
 have hnI:(n:Int)≤256:=by omega
 have HO:=Hid.mk' hO
 clear hR hF hO hN h0
 go_enter Tryz.func34,Tryz.ntmps34
 go_wp2_with (go_at_call 58;refine HC.out.mono ?_;rintro e w1 ⟨v1,rfl,hO1,hB⟩;obtain ⟨gR,cap,hv,hg,hcap,hrow⟩:=row_of hO1 hn0;subst hv;have HO1:=Hid.mk' (And.intro hg (And.intro hcap (And.intro hrow hB)));clear hO1 hB hrow)
 have HK0:Hid (OQ w w1 w.heap.size gR rs F 0 F):=by
  obtain ⟨k1,k2,⟨cur,k3,k5⟩,k4⟩:=HO1.out
  refine ⟨⟨cur,k3,fun j hj => ?_⟩,fun j _ hj=>by omega,fun j _=>rfl,k4⟩
  have hj2:j<n*7:=by have:=HN.out;omega
  rw [k5 j hj2]
  show some (((List.range (n*7)).map F).getD j undef)=_
  rw [List.getD_eq_getElem?_getD,List.getElem?_map,List.getElem?_range hj2]
  rfl
 go_loopw [4,5,6,7,12,48] (fun _ _ _ _ v12 _ wr=>∃ k:Nat,v12 = .int .i64 k∧k≤n∧Hid (∃ G,OQ w wr w.heap.size gR rs F k G)) (fun _ _ _ _ v12 _ _=>n - (intOf v12).toNat)
 case atStart=>exact ⟨0,rfl,by omega,_,HK0.out⟩
 case round=>
  obtain ⟨wo,hwo⟩:∃ wo,wo=wr:=⟨_,rfl⟩
  subst hwo
  obtain ⟨k,rfl,hk,HG⟩:=hrel
  obtain ⟨GG,hG⟩:=HG.out
  by_cases hlt:k<n
  · have hltI:(k:Int)<(n:Int):=by omega
    have hkl:k<rs.length:=by have:=HN.out;omega
    have hcI:(k:Int)<(cap:Int):=by omega
    obtain ⟨r,hr⟩:∃ r,rs[k]=r:=⟨_,rfl⟩
    obtain ⟨f0,f4,f6,hRR⟩:=(HF.out k hkl).2
    rw [hr] at f0 f4 f6 hRR
    have hOk:Ok r:=by rw [←hr];exact HO.out _ (List.getElem_mem hkl)
    have hRRr:RR wo (F (k*7+1)) (F (k*7+2)) (F (k*7+3)) (F (k*7+5)) r:=hRR.below hG.bel (Nat.le_refl _)
    have cel:∀ i,i<7→wo.cell? ⟨gR,k*7+i,none⟩=some (F (k*7+i)):=fun i hi=>by rw [hG.row.cell (by omega),hG.old _ (by omega)]
    obtain ⟨a1,n1,c1,e1⟩:=hRR.a.sl
    obtain ⟨ka,kn,kc,e2⟩:=hRR.k.sl
    obtain ⟨a3,n3,c3,e3⟩:=hRR.p.sl
    obtain ⟨a5,n5,c5,e5⟩:=hRR.r.sl
    have d0:wo.cell? ⟨gR,k*7,none⟩=some (.bool r.bg):=by rw [←f0];exact cel 0 (by omega)
    have d1:wo.cell? ⟨gR,k*7+1,none⟩=some (.slice a1 n1 c1):=by rw [←e1];exact cel 1 (by omega)
    have d2:wo.cell? ⟨gR,k*7+2,none⟩=some (.slice ka kn kc):=by rw [←e2];exact cel 2 (by omega)
    have d3:wo.cell? ⟨gR,k*7+3,none⟩=some (.slice a3 n3 c3):=by rw [←e3];exact cel 3 (by omega)
    have d4:wo.cell? ⟨gR,k*7+4,none⟩=some (.bool r.en):=by rw [←f4];exact cel 4 (by omega)
    have d5:wo.cell? ⟨gR,k*7+5,none⟩=some (.slice a5 n5 c5):=by rw [←e5];exact cel 5 (by omega)
    have d6:wo.cell? ⟨gR,k*7+6,none⟩=some (.int .i64 r.cu):=by rw [←f6];exact cel 6 (by omega)
    have HA:Hid (∀ W,Below w.heap.size w W→Calls Tryz.prog 59 #[.slice a1 n1 c1] W fun e w'=>∃ y1 y2 y3,e = .returned (.slice y1 y2 y3)∧Rob (fun i=>i<W.heap.size) w' (fun W=>SR W (.slice y1 y2 y3) r.ante)∧Below W.heap.size W w'):=fun W hb=>ownRow_sl _ _ W (by rw [←e1];exact hRR.a.below hb (Nat.le_refl _)) hOk.a8 hOk.aS
    have HK:Hid (∀ W,Below w.heap.size w W→Calls Tryz.prog 59 #[.slice ka kn kc] W fun e w'=>∃ y1 y2 y3,e = .returned (.slice y1 y2 y3)∧Rob (fun i=>i<W.heap.size) w' (fun W=>SR W (.slice y1 y2 y3) r.key)∧Below W.heap.size W w'):=fun W hb=>ownRow_sl _ _ W (by rw [←e2];exact hRR.k.below hb (Nat.le_refl _)) hOk.k8 hOk.kS
    have HP:Hid (∀ W,Below w.heap.size w W→Calls Tryz.prog 59 #[.slice a3 n3 c3] W fun e w'=>∃ y1 y2 y3,e = .returned (.slice y1 y2 y3)∧Rob (fun i=>i<W.heap.size) w' (fun W=>SR W (.slice y1 y2 y3) r.post)∧Below W.heap.size W w'):=fun W hb=>ownRow_sl _ _ W (by rw [←e3];exact hRR.p.below hb (Nat.le_refl _)) hOk.p8 hOk.pS
    have HB:=Hid.mk' (Below.refl wo.heap.size wo)
    have HGG:=Hid.mk' hG
    have HRX:=Hid.mk' (And.intro hRRr (And.intro hOk (And.intro e5 hr)))
    clear hG cel hRRr hRR hOk e1 e2 e3 e5 f0 f4 f6 hr
    generalize r.bg=xb at *
    generalize r.en=xe at *
    generalize r.cu=xc at *
    go_upto_region 5 with fail
    go_cut [] (fun wx=>Hid (∃ A K P,IsSl A∧IsSl K∧IsSl P∧RowB wx gR 53 (updF (updF (updF GG (k*7+1) A) (k*7+2) K) (k*7+3) P) (rs.length*7)∧Rob (fun i=>i<w.heap.size∨i=gR) wx (fun W=>SR W A r.ante)∧Rob (fun i=>i<w.heap.size∨i=gR) wx (fun W=>SR W K r.key)∧Rob (fun i=>i<w.heap.size∨i=gR) wx (fun W=>SR W P r.post)∧(Fr wo wx fun i=>i=gR)∧wx.heap[wo.heap.size]? = some (.cells #[.bool xb,.slice a1 n1 c1,.slice ka kn kc,.slice a3 n3 c3,.bool xe,.slice a5 n5 c5,.int .i64 xc] 53 (0,0))))
    case first=>
     refine wp_region_inv (by kernel_rfl) (by kernel_rfl) (by kernel_rfl) (by kernel_rfl) (J5 w wo w.heap.size gR k (rs.length*7) (.slice (some ⟨gR,0,none⟩) n cap) GG wo.heap.size (.cells #[.bool xb,.slice a1 n1 c1,.slice ka kn kc,.slice a3 n3 c3,.bool xe,.slice a5 n5 c5,.int .i64 xc] 53 (0,0)) (.slice a1 n1 c1) (.slice ka kn kc) (.slice a3 n3 c3) r) ?_ ⟨?_,?_,?_,?_,?_,?_,?_,?_,?_,?_,?_,?_,?_,?_,?_,?_,?_,?_,?_,?_,?_,?_,?_,?_,trivial⟩ ?_
     · have hG:=HGG.out
       have hgr:Grown wo (wo.alloc (.cells #[.bool xb,.slice a1 n1 c1,.slice ka kn kc,.slice a3 n3 c3,.bool xe,.slice a5 n5 c5,.int .i64 xc] 53)).drew:=((Grown.refl _).alloc _).drew
       have e:Gp GG k (fun _=>false) (fun _=>undef)=GG:=by funext i;simp [Gp]
       exact ⟨fun _ _ _ h=>(by cases h),fun h=>(by cases h),fun h=>(by cases h),fun h=>(by cases h),fun h=>(by cases h),fun h=>(by cases h),fun h=>(by cases h),fr_grown hgr _,hG.bel.trans (hgr.below.mono hG.bel.size),heap_alloc_new wo _,by rw [e];exact hG.row.fr (fr_grown hgr fun _=>False) id⟩
     · as_aux_lemma=>
        rename_i Jx Kx hJx hKx
        intro a wx p vs hJ hdep hpi hval hfr K hK
        have d:a.tmps.getD 3 undef=(Value.slice (some ⟨gR,0,none⟩) n cap):=hfr 3 (by kernel_rfl)
        exact step_value (v:=(Value.slice (some ⟨gR,0,none⟩) n cap)) (w':=wx) rfl (fun _ _ h=>by cases h) (rho [(3,(Value.slice (some ⟨gR,0,none⟩) n cap))]) (rho_of (by intro q hm;simp only [List.mem_cons,List.not_mem_nil,or_false] at hm;rcases hm with rfl;exact d) (by kernel_rfl)) (by kernel_rfl) (hK _ _ (hJ.put rfl))
     · as_aux_lemma=>
        rename_i Jx Kx hJx hKx
        intro a wx p vs hJ hdep hpi hval hfr K hK
        have d:a.tmps.getD 4 undef=(Value.int .i64 (k:Int)):=hfr 4 (by kernel_rfl)
        exact step_value (v:=(Value.int .i64 (k:Int))) (w':=wx) rfl (fun _ _ h=>by cases h) (rho [(4,(Value.int .i64 (k:Int)))]) (rho_of (by intro q hm;simp only [List.mem_cons,List.not_mem_nil,or_false] at hm;rcases hm with rfl;exact d) (by kernel_rfl)) (by kernel_rfl) (hK _ _ (hJ.put rfl))
     · as_aux_lemma=>
        rename_i Jx Kx hJx hKx
        intro a wx p vs hJ hdep hpi hval hfr K hK
        have d:a.tmps.getD 3 undef=(Value.slice (some ⟨gR,0,none⟩) n cap):=hfr 3 (by kernel_rfl)
        exact step_value (v:=(Value.slice (some ⟨gR,0,none⟩) n cap)) (w':=wx) rfl (fun _ _ h=>by cases h) (rho [(3,(Value.slice (some ⟨gR,0,none⟩) n cap))]) (rho_of (by intro q hm;simp only [List.mem_cons,List.not_mem_nil,or_false] at hm;rcases hm with rfl;exact d) (by kernel_rfl)) (by kernel_rfl) (hK _ _ (hJ.put rfl))
     · as_aux_lemma=>
        rename_i Jx Kx hJx hKx
        intro a wx p vs hJ hdep hpi hval hfr K hK
        have d:a.tmps.getD 4 undef=(Value.int .i64 (k:Int)):=hfr 4 (by kernel_rfl)
        exact step_value (v:=(Value.int .i64 (k:Int))) (w':=wx) rfl (fun _ _ h=>by cases h) (rho [(4,(Value.int .i64 (k:Int)))]) (rho_of (by intro q hm;simp only [List.mem_cons,List.not_mem_nil,or_false] at hm;rcases hm with rfl;exact d) (by kernel_rfl)) (by kernel_rfl) (hK _ _ (hJ.put rfl))
     · as_aux_lemma=>
        rename_i Jx Kx hJx hKx
        intro a wx p vs hJ hdep hpi hval hfr K hK
        have d:a.tmps.getD 3 undef=(Value.slice (some ⟨gR,0,none⟩) n cap):=hfr 3 (by kernel_rfl)
        exact step_value (v:=(Value.slice (some ⟨gR,0,none⟩) n cap)) (w':=wx) rfl (fun _ _ h=>by cases h) (rho [(3,(Value.slice (some ⟨gR,0,none⟩) n cap))]) (rho_of (by intro q hm;simp only [List.mem_cons,List.not_mem_nil,or_false] at hm;rcases hm with rfl;exact d) (by kernel_rfl)) (by kernel_rfl) (hK _ _ (hJ.put rfl))
     · as_aux_lemma=>
        rename_i Jx Kx hJx hKx
        intro a wx p vs hJ hdep hpi hval hfr K hK
        have d:a.tmps.getD 4 undef=(Value.int .i64 (k:Int)):=hfr 4 (by kernel_rfl)
        exact step_value (v:=(Value.int .i64 (k:Int))) (w':=wx) rfl (fun _ _ h=>by cases h) (rho [(4,(Value.int .i64 (k:Int)))]) (rho_of (by intro q hm;simp only [List.mem_cons,List.not_mem_nil,or_false] at hm;rcases hm with rfl;exact d) (by kernel_rfl)) (by kernel_rfl) (hK _ _ (hJ.put rfl))
     · as_aux_lemma=>
        rename_i Jx Kx hJx hKx
        intro a wx p vs hJ hdep hpi hval hfr K hK
        have d20:a.tmps.getD 5 undef=(Value.pointer (some ⟨wo.heap.size,0,none⟩)):=hfr 5 (by kernel_rfl)
        have hJ':=hJ.put (i:=6) rfl
        clear hval hfr hdep hJ HA HK HP HB HGG HRX HG HO HF HC HO1 HK0 HN hKx hJx
        simp only [Array.getD_eq_getD_getElem?] at d20
        go_simp
        exact hK _ _ hJ'
     · as_aux_lemma=>
        rename_i Jx Kx hJx hKx
        intro a wx p vs hJ hdep hpi hval hfr K hK
        have q6:=hdep 6 (by kernel_rfl)
        have d20:a.tmps.getD 23 undef=(Value.pointer (some ⟨wo.heap.size,1,none⟩)):=(hval 6 _ 23 q6 (by rfl) rfl).trans (hJ.v 6 _ rfl q6)
        have hc:wx.cell? ⟨wo.heap.size,1,none⟩=some (Value.slice a1 n1 c1):=by rw [cell_of hJ.box];rfl
        have hJ':=hJ.put (i:=7) rfl
        clear hval hfr hdep hJ HA HK HP HB HGG HRX HG HO HF HC HO1 HK0 HN hKx hJx
        simp only [Array.getD_eq_getD_getElem?] at d20
        go_simp
        exact hK _ _ hJ'
     · rename_i Jx Kx hJx hKx
       intro a wx p vs hJ hdep hpi hval hfr K hK
       have q:=hdep 7 (by kernel_rfl)
       have d20:a.tmps.getD 24 undef=(Value.slice a1 n1 c1):=(hval 7 _ 24 q (by rfl) rfl).trans (hJ.v 7 _ rfl q)
       have HCL:=Hid.mk' (HA.out wx hJ.bel)
       have HJ:=Hid.mk' hJ
       have hpi':=Hid.mk' hpi
       have hKK:=Hid.mk' hK
       clear hval hfr hdep hJ HA HK HP HB HG HO HF HC HO1 HK0 HN hKx hJx hpi hK q
       simp only [Array.getD_eq_getD_getElem?] at d20
       go_simp
       go_at_call 59
       refine HCL.out.mono ?_
       rintro e w5 ⟨y1,y2,y3,rfl,hr5,hb5⟩
       refine hKK.out _ _ (HJ.out.call8 hpi'.out hb5 ⟨y1,y2,y3,rfl⟩ (hr5.less fun i _ hi => ?_) ?_)
       · have:=HJ.out.row.lt
         have:=HJ.out.bel.size
         rcases hi with hi | hi <;> omega
       · exact HJ.out.bel.size
     · as_aux_lemma=>
        rename_i Jx Kx hJx hKx
        intro a wx p vs hJ hdep hpi hval hfr K hK
        have d20:a.tmps.getD 5 undef=(Value.pointer (some ⟨wo.heap.size,0,none⟩)):=hfr 5 (by kernel_rfl)
        have hJ':=hJ.put (i:=9) rfl
        clear hval hfr hdep hJ HA HK HP HB HGG HRX HG HO HF HC HO1 HK0 HN hKx hJx
        simp only [Array.getD_eq_getD_getElem?] at d20
        go_simp
        exact hK _ _ hJ'
     · as_aux_lemma=>
        rename_i Jx Kx hJx hKx
        intro a wx p vs hJ hdep hpi hval hfr K hK
        have q9:=hdep 9 (by kernel_rfl)
        have d20:a.tmps.getD 26 undef=(Value.pointer (some ⟨wo.heap.size,2,none⟩)):=(hval 9 _ 26 q9 (by rfl) rfl).trans (hJ.v 9 _ rfl q9)
        have hc:wx.cell? ⟨wo.heap.size,2,none⟩=some (Value.slice ka kn kc):=by rw [cell_of hJ.box];rfl
        have hJ':=hJ.put (i:=10) rfl
        clear hval hfr hdep hJ HA HK HP HB HGG HRX HG HO HF HC HO1 HK0 HN hKx hJx
        simp only [Array.getD_eq_getD_getElem?] at d20
        go_simp
        exact hK _ _ hJ'
     · rename_i Jx Kx hJx hKx
       intro a wx p vs hJ hdep hpi hval hfr K hK
       have q:=hdep 10 (by kernel_rfl)
       have d20:a.tmps.getD 27 undef=(Value.slice ka kn kc):=(hval 10 _ 27 q (by rfl) rfl).trans (hJ.v 10 _ rfl q)
       have HCL:=Hid.mk' (HK.out wx hJ.bel)
       have HJ:=Hid.mk' hJ
       have hpi':=Hid.mk' hpi
       have hKK:=Hid.mk' hK
       clear hval hfr hdep hJ HA HK HP HB HG HO HF HC HO1 HK0 HN hKx hJx hpi hK q
       simp only [Array.getD_eq_getD_getElem?] at d20
       go_simp
       go_at_call 59
       refine HCL.out.mono ?_
       rintro e w5 ⟨y1,y2,y3,rfl,hr5,hb5⟩
       refine hKK.out _ _ (HJ.out.call11 hpi'.out hb5 ⟨y1,y2,y3,rfl⟩ (hr5.less fun i _ hi => ?_) ?_)
       · have:=HJ.out.row.lt
         have:=HJ.out.bel.size
         rcases hi with hi | hi <;> omega
       · exact HJ.out.bel.size
     · as_aux_lemma=>
        rename_i Jx Kx hJx hKx
        intro a wx p vs hJ hdep hpi hval hfr K hK
        have d20:a.tmps.getD 5 undef=(Value.pointer (some ⟨wo.heap.size,0,none⟩)):=hfr 5 (by kernel_rfl)
        have hJ':=hJ.put (i:=12) rfl
        clear hval hfr hdep hJ HA HK HP HB HGG HRX HG HO HF HC HO1 HK0 HN hKx hJx
        simp only [Array.getD_eq_getD_getElem?] at d20
        go_simp
        exact hK _ _ hJ'
     · as_aux_lemma=>
        rename_i Jx Kx hJx hKx
        intro a wx p vs hJ hdep hpi hval hfr K hK
        have q12:=hdep 12 (by kernel_rfl)
        have d20:a.tmps.getD 29 undef=(Value.pointer (some ⟨wo.heap.size,3,none⟩)):=(hval 12 _ 29 q12 (by rfl) rfl).trans (hJ.v 12 _ rfl q12)
        have hc:wx.cell? ⟨wo.heap.size,3,none⟩=some (Value.slice a3 n3 c3):=by rw [cell_of hJ.box];rfl
        have hJ':=hJ.put (i:=13) rfl
        clear hval hfr hdep hJ HA HK HP HB HGG HRX HG HO HF HC HO1 HK0 HN hKx hJx
        simp only [Array.getD_eq_getD_getElem?] at d20
        go_simp
        exact hK _ _ hJ'
     · rename_i Jx Kx hJx hKx
       intro a wx p vs hJ hdep hpi hval hfr K hK
       have q:=hdep 13 (by kernel_rfl)
       have d20:a.tmps.getD 30 undef=(Value.slice a3 n3 c3):=(hval 13 _ 30 q (by rfl) rfl).trans (hJ.v 13 _ rfl q)
       have HCL:=Hid.mk' (HP.out wx hJ.bel)
       have HJ:=Hid.mk' hJ
       have hpi':=Hid.mk' hpi
       have hKK:=Hid.mk' hK
       clear hval hfr hdep hJ HA HK HP HB HG HO HF HC HO1 HK0 HN hKx hJx hpi hK q
       simp only [Array.getD_eq_getD_getElem?] at d20
       go_simp
       go_at_call 59
       refine HCL.out.mono ?_
       rintro e w5 ⟨y1,y2,y3,rfl,hr5,hb5⟩
       refine hKK.out _ _ (HJ.out.call14 hpi'.out hb5 ⟨y1,y2,y3,rfl⟩ (hr5.less fun i _ hi => ?_) ?_)
       · have:=HJ.out.row.lt
         have:=HJ.out.bel.size
         rcases hi with hi | hi <;> omega
       · exact HJ.out.bel.size
     · as_aux_lemma=>
        rename_i Jx Kx hJx hKx
        intro a wx p vs hJ hdep hpi hval hfr K hK
        have q0:=hdep 0 (by kernel_rfl)
        have d20:a.tmps.getD 17 undef=(Value.slice (some ⟨gR,0,none⟩) n cap):=(hval 0 _ 17 q0 (by rfl) rfl).trans (hJ.v 0 _ rfl q0)
        have q1:=hdep 1 (by kernel_rfl)
        have d21:a.tmps.getD 18 undef=(Value.int .i64 (k:Int)):=(hval 1 _ 18 q1 (by rfl) rfl).trans (hJ.v 1 _ rfl q1)
        have hJ':=hJ.put (i:=15) rfl
        clear hval hfr hdep hJ HA HK HP HB HGG HRX HG HO HF HC HO1 HK0 HN hKx hJx
        simp only [Array.getD_eq_getD_getElem?] at d20 d21
        go_simp
        exact hK _ _ hJ'
     · as_aux_lemma=>
        rename_i Jx Kx hJx hKx
        intro a wx p vs hJ hdep hpi hval hfr K hK
        have q15:=hdep 15 (by kernel_rfl)
        have d20:a.tmps.getD 32 undef=(Value.pointer (some ⟨gR,k*7,none⟩)):=(hval 15 _ 32 q15 (by rfl) rfl).trans (hJ.v 15 _ rfl q15)
        have hJ':=hJ.put (i:=16) rfl
        clear hval hfr hdep hJ HA HK HP HB HGG HRX HG HO HF HC HO1 HK0 HN hKx hJx
        simp only [Array.getD_eq_getD_getElem?] at d20
        go_simp
        exact hK _ _ hJ'
     · as_aux_lemma=>
        rename_i Jx Kx hJx hKx
        intro a wx p vs hJ hdep hpi hval hfr K hK
        have q1:=hdep 16 (by kernel_rfl)
        have q2:=hdep 8 (by kernel_rfl)
        have d20:a.tmps.getD 33 undef=(Value.pointer (some ⟨gR,k*7+1,none⟩)):=(hval 16 _ 33 q1 (by rfl) rfl).trans (hJ.v 16 _ rfl q1)
        have d21:a.tmps.getD 25 undef=vs 8:=hval 8 _ 25 q2 (by rfl) rfl
        obtain ⟨x1,x2,x3,hx⟩:=(hJ.c8 q2).1
        have hgl:k*7+1<rs.length*7:=by omega
        have hc:=hJ.row.cell hgl
        have hfz:wx.frozen? ⟨gR,k*7+1,none⟩=false:=hJ.row.free
        have hJ':=fun x=>hJ.store17 q2 x hg (by have:=HGG.out.row.lt;omega)
        rw [hx] at d21 hJ'
        clear hval hfr hdep hJ HA HK HP HB HGG HRX HG HO HF HC HO1 HK0 HN hKx hJx
        simp only [Array.getD_eq_getD_getElem?] at d20 d21
        obtain ⟨cu,hcu⟩:∃ cu,wx.cell? ⟨gR,k*7+1,none⟩=some cu:=⟨_,hc⟩
        clear hc
        go_simp
        exact hK undef _ (hJ' undef)
     · as_aux_lemma=>
        rename_i Jx Kx hJx hKx
        intro a wx p vs hJ hdep hpi hval hfr K hK
        have q2:=hdep 2 (by kernel_rfl)
        have d20:a.tmps.getD 19 undef=(Value.slice (some ⟨gR,0,none⟩) n cap):=(hval 2 _ 19 q2 (by rfl) rfl).trans (hJ.v 2 _ rfl q2)
        have q3:=hdep 3 (by kernel_rfl)
        have d21:a.tmps.getD 20 undef=(Value.int .i64 (k:Int)):=(hval 3 _ 20 q3 (by rfl) rfl).trans (hJ.v 3 _ rfl q3)
        have hJ':=hJ.put (i:=18) rfl
        clear hval hfr hdep hJ HA HK HP HB HGG HRX HG HO HF HC HO1 HK0 HN hKx hJx
        simp only [Array.getD_eq_getD_getElem?] at d20 d21
        go_simp
        exact hK _ _ hJ'
     · as_aux_lemma=>
        rename_i Jx Kx hJx hKx
        intro a wx p vs hJ hdep hpi hval hfr K hK
        have q18:=hdep 18 (by kernel_rfl)
        have d20:a.tmps.getD 34 undef=(Value.pointer (some ⟨gR,k*7,none⟩)):=(hval 18 _ 34 q18 (by rfl) rfl).trans (hJ.v 18 _ rfl q18)
        have hJ':=hJ.put (i:=19) rfl
        clear hval hfr hdep hJ HA HK HP HB HGG HRX HG HO HF HC HO1 HK0 HN hKx hJx
        simp only [Array.getD_eq_getD_getElem?] at d20
        go_simp
        exact hK _ _ hJ'
     · as_aux_lemma=>
        rename_i Jx Kx hJx hKx
        intro a wx p vs hJ hdep hpi hval hfr K hK
        have q1:=hdep 19 (by kernel_rfl)
        have q2:=hdep 11 (by kernel_rfl)
        have d20:a.tmps.getD 35 undef=(Value.pointer (some ⟨gR,k*7+2,none⟩)):=(hval 19 _ 35 q1 (by rfl) rfl).trans (hJ.v 19 _ rfl q1)
        have d21:a.tmps.getD 28 undef=vs 11:=hval 11 _ 28 q2 (by rfl) rfl
        obtain ⟨x1,x2,x3,hx⟩:=(hJ.c11 q2).1
        have hgl:k*7+2<rs.length*7:=by omega
        have hc:=hJ.row.cell hgl
        have hfz:wx.frozen? ⟨gR,k*7+2,none⟩=false:=hJ.row.free
        have hJ':=fun x=>hJ.store20 q2 x hg (by have:=HGG.out.row.lt;omega)
        rw [hx] at d21 hJ'
        clear hval hfr hdep hJ HA HK HP HB HGG HRX HG HO HF HC HO1 HK0 HN hKx hJx
        simp only [Array.getD_eq_getD_getElem?] at d20 d21
        obtain ⟨cu,hcu⟩:∃ cu,wx.cell? ⟨gR,k*7+2,none⟩=some cu:=⟨_,hc⟩
        clear hc
        go_simp
        exact hK undef _ (hJ' undef)
     · as_aux_lemma=>
        rename_i Jx Kx hJx hKx
        intro a wx p vs hJ hdep hpi hval hfr K hK
        have q4:=hdep 4 (by kernel_rfl)
        have d20:a.tmps.getD 21 undef=(Value.slice (some ⟨gR,0,none⟩) n cap):=(hval 4 _ 21 q4 (by rfl) rfl).trans (hJ.v 4 _ rfl q4)
        have q5:=hdep 5 (by kernel_rfl)
        have d21:a.tmps.getD 22 undef=(Value.int .i64 (k:Int)):=(hval 5 _ 22 q5 (by rfl) rfl).trans (hJ.v 5 _ rfl q5)
        have hJ':=hJ.put (i:=21) rfl
        clear hval hfr hdep hJ HA HK HP HB HGG HRX HG HO HF HC HO1 HK0 HN hKx hJx
        simp only [Array.getD_eq_getD_getElem?] at d20 d21
        go_simp
        exact hK _ _ hJ'
     · as_aux_lemma=>
        rename_i Jx Kx hJx hKx
        intro a wx p vs hJ hdep hpi hval hfr K hK
        have q21:=hdep 21 (by kernel_rfl)
        have d20:a.tmps.getD 36 undef=(Value.pointer (some ⟨gR,k*7,none⟩)):=(hval 21 _ 36 q21 (by rfl) rfl).trans (hJ.v 21 _ rfl q21)
        have hJ':=hJ.put (i:=22) rfl
        clear hval hfr hdep hJ HA HK HP HB HGG HRX HG HO HF HC HO1 HK0 HN hKx hJx
        simp only [Array.getD_eq_getD_getElem?] at d20
        go_simp
        exact hK _ _ hJ'
     · as_aux_lemma=>
        rename_i Jx Kx hJx hKx
        intro a wx p vs hJ hdep hpi hval hfr K hK
        have q1:=hdep 22 (by kernel_rfl)
        have q2:=hdep 14 (by kernel_rfl)
        have d20:a.tmps.getD 37 undef=(Value.pointer (some ⟨gR,k*7+3,none⟩)):=(hval 22 _ 37 q1 (by rfl) rfl).trans (hJ.v 22 _ rfl q1)
        have d21:a.tmps.getD 31 undef=vs 14:=hval 14 _ 31 q2 (by rfl) rfl
        obtain ⟨x1,x2,x3,hx⟩:=(hJ.c14 q2).1
        have hgl:k*7+3<rs.length*7:=by omega
        have hc:=hJ.row.cell hgl
        have hfz:wx.frozen? ⟨gR,k*7+3,none⟩=false:=hJ.row.free
        have hJ':=fun x=>hJ.store23 q2 x hg (by have:=HGG.out.row.lt;omega)
        rw [hx] at d21 hJ'
        clear hval hfr hdep hJ HA HK HP HB HGG HRX HG HO HF HC HO1 HK0 HN hKx hJx
        simp only [Array.getD_eq_getD_getElem?] at d20 d21
        obtain ⟨cu,hcu⟩:∃ cu,wx.cell? ⟨gR,k*7+3,none⟩=some cu:=⟨_,hc⟩
        clear hc
        go_simp
        exact hK undef _ (hJ' undef)
     · intro vs W hJ
       rw [putL_eq]
       simp only [putsL,List.set_cons_zero,List.set_cons_succ,Nat.zero_add,Nat.reduceAdd]
       have e:Gp GG k (fun j=>decide (j<24)) vs=updF (updF (updF GG (k*7+1) (vs 8)) (k*7+2) (vs 11)) (k*7+3) (vs 14):=by
        funext i
        simp only [Gp,updF]
        by_cases i1:i=k*7+1
        · subst i1;simp
        · by_cases i2:i=k*7+2
          · subst i2;simp
          · by_cases i3:i=k*7+3
            · subst i3;simp
            · simp [i1,i2,i3]
       have h8:=hJ.c8 rfl
       have h11:=hJ.c11 rfl
       have h14:=hJ.c14 rfl
       have hrw:=hJ.row
       have HJ:Hid (∃ A K P,IsSl A∧IsSl K∧IsSl P∧RowB W gR 53 (updF (updF (updF GG (k*7+1) A) (k*7+2) K) (k*7+3) P) (rs.length*7)∧Rob (fun i=>i<w.heap.size∨i=gR) W (fun W=>SR W A r.ante)∧Rob (fun i=>i<w.heap.size∨i=gR) W (fun W=>SR W K r.key)∧Rob (fun i=>i<w.heap.size∨i=gR) W (fun W=>SR W P r.post)∧(Fr wo W fun i=>i=gR)∧W.heap[wo.heap.size]? = some (.cells #[.bool xb,.slice a1 n1 c1,.slice ka kn kc,.slice a3 n3 c3,.bool xe,.slice a5 n5 c5,.int .i64 xc] 53 (0,0))):=⟨vs 8,vs 11,vs 14,h8.1,h11.1,h14.1,by rw [←e];exact hrw,h8.2,h11.2,h14.2,hJ.fr,hJ.box⟩
       clear hJ h8 h11 h14 hrw e
       rename_i Jx Kx hJx hKx
       refine hKx _ _ (Met.intro (hJx _ _ ?_))
       (repeat apply Exists.intro)
       exact ⟨HJ,rfl⟩
    case rest=>
     obtain ⟨A,K,P,⟨A1,A2,A3,hA⟩,⟨K1,K2,K3,hK⟩,⟨P1,P2,P3,hP⟩,hrow,hRA,hRK,hRP,hfr,hbox⟩:=hcut.out
     have hbc:Below w.heap.size w wc:=HGG.out.bel.trans (hfr.below (fun i e=>by omega) HGG.out.bel.size)
     have b5:wc.cell? ⟨wo.heap.size,5,none⟩=some (.slice a5 n5 c5):=by rw [cell_of hbox];rfl
     obtain ⟨hRRr,hOk,e5,hrk⟩:=HRX.out
     have hPR:PR w (.slice a5 n5 c5) r.res:=by
      have:=(HF.out k hkl).2.2.2.2.r
      rw [hrk] at this
      rw [←e5]
      exact this
     obtain ⟨H,HH⟩:=pr_vals hPR
     have HH':=Hid.mk' HH
     have hn5:r.res.length=n5:=by
      obtain ⟨a',c',e,_,_⟩:=hPR
      injection e with _ e2 _
      exact e2.symm
     have hn16:n5≤16:=by have:=hOk.r16;omega
     have HC5:Hid (Calls Tryz.prog 60 #[.slice a5 n5 c5] wc fun e w'=>∃ v',e = .returned v'∧w'.ownsRow wc.heap.size 65 4 v' n5 ((List.range (n5*4)).map H)∧Below wc.heap.size wc w'):=by
      refine clone60 wc a5 n5 c5 _ (fun e => ?_) (by simp) (fun j u hj => ?_) (fun u hu => ?_) (by omega)
      · by_cases e0:n5=0
        · exact e0
        · obtain ⟨pg,po,e1,_⟩:=(HH 0 (by omega)).1 0 (by omega)
          rw [e] at e1;cases e1
      · obtain ⟨hj1,rfl⟩:=map_range_at H (n5*4) j u hj
        obtain ⟨pg,po,e1,e2⟩:=(HH (j / 4) (by omega)).1 (j % 4) (by omega)
        refine ⟨_,e1,?_⟩
        rw [add_none]
        rw [show j / 4*4+j % 4=j by omega] at e2
        exact cell_below e2 hbc (Nat.le_refl _)
      · obtain ⟨j,hj,rfl⟩:=List.mem_map.1 hu
        have hj:=List.mem_range.1 hj
        obtain ⟨q0,q1,q2,q3⟩:=(HH (j / 4) (by omega)).2
        have:j % 4=0∨j % 4=1∨j % 4=2∨j % 4=3:=by omega
        rcases this with h | h | h | h
        · rw [show j=j / 4*4 by omega,q0];rfl
        · rw [show j=j / 4*4+1 by omega,q1];rfl
        · rw [show j=j / 4*4+2 by omega,q2];rfl
        · rw [show j=j / 4*4+3 by omega];exact isSl_one q3.sl
     have HX5:=Hid.mk' (And.intro hrow (And.intro hRA (And.intro hRK (And.intro hRP (And.intro hbox (And.intro hbc hfr))))))
     have HSC:Hid (∀ i,k*7≤i→GG i=F i):=HGG.out.old
     have HAKP:=Hid.mk' (And.intro hA (And.intro hK hP))
     have HN5:=Hid.mk' hn5
     have hn5I:(n5:Int)≤16:=by omega
     clear hcut hrow hRA hRK hRP hfr hbox hbc hRRr hOk e5 hrk hPR HH hn5 HA HK HP HB
     go_upto_region 7 with (go_at_call 60;go_must (refine HC5.out.mono ?_;rintro e w5 ⟨v5,rfl,hO5,hB5⟩;obtain ⟨q1,q3,hv5⟩:=own_sl2 hO5;subst hv5;have HO5:=Hid.mk' (And.intro hO5 hB5);have hrow5:=HX5.out.1.fr (fr_below hB5 (Nat.le_refl _) fun _=>False) id;have h5c:=hrow5.cell (j:=k*7+5) (by omega);have h5f:w5.frozen? ⟨gR,k*7+5,none⟩=false:=hrow5.free;clear hO5 hB5 hrow5))
     obtain ⟨W7,hW7⟩:∃ W7,W7=w5.setCell ⟨gR,k*7+5,none⟩ (.slice q1 n5 q3):=⟨_,rfl⟩
     obtain ⟨box,hbx⟩:∃ box:Obj,box = .cells #[.bool xb,.slice a1 n1 c1,.slice ka kn kc,.slice a3 n3 c3,.bool xe,.slice a5 n5 c5,.int .i64 xc] 53 (0,0):=⟨_,rfl⟩
     have HI0:Hid (IP w wo W7 wc.heap.size w.heap.size gR (rs.length*7) (updF (updF (updF (updF GG (k*7+1) A) (k*7+2) K) (k*7+3) P) (k*7+5) (.slice q1 n5 q3)) A K P r q1 n5 q3 H wo.heap.size box 0):=by
      obtain ⟨x1,x2,x3,x4,x5,x6,x7⟩:=HX5.out
      obtain ⟨o1,o2⟩:=HO5.out
      have hfb:∀ X,Fr wc w5 X:=fun X=>fr_below o2 (Nat.le_refl _) X
      have hfs:=fr_set w5 gR (k*7+5) (.slice q1 n5 q3)
      have hgl:=HGG.out.row.lt
      have hwb:=HGG.out.bel.size
      have hwc:=x7.size
      have up:∀ {Q:World→Prop},Rob (fun i=>i<w.heap.size∨i=gR) wc Q→Rob (fun i=>i<w.heap.size∨i=gR∨wc.heap.size≤i) W7 Q:=fun {Q} hq=>by
       rw [hW7]
       refine ((hq.less (Y:=fun i=>i<w.heap.size∨i=gR∨wc.heap.size≤i) fun i hi e => ?_).fr (hfb fun _=>False) fun _ _ e=>e.elim).fr hfs fun _ _ e => .inr (.inl e)
       rcases e with e | e | e
       · exact .inl e
       · exact .inr e
       · omega
      rw [hbx]
      refine ⟨by rw [hW7];exact (x1.fr (hfb fun _=>False) id).set _ _,up x2,up x3,up x4,by rw [hW7];exact (x6.trans (o2.mono x6.size)).setCell hg _,by rw [hW7];exact (x7.trans (hfb _) fun _ _ e=>e).trans hfs fun _ _ e=>e,by rw [hW7];exact (hfs.block _ (by have:=blk_lt x5;have:=o2.size;omega) (by omega)).trans ((o2.block _ (blk_lt x5)).trans x5),?_⟩
      by_cases h50:n5=0
      · exact .inl h50
      · obtain ⟨gP,cp,ev,g1,g2,hrP⟩:=row_of o1 h50
        injection ev with ev1 _ ev3
        have hgP:gP≠gR:=by omega
        have hgx:=blk_lt x5
        refine .inr ⟨gP,ev1,by omega,by omega,by omega,by omega,hgP,by omega,_,?_,fun j _ hj=>by omega,fun j _=>rfl,fun j=>⟨rfl,rfl,rfl⟩⟩
        have hrP2:RowB W7 gP 65 (fun j=>((List.range (n5*4)).map H).getD j undef) (n5*4):=by rw [hW7];exact hrP.fr hfs hgP
        obtain ⟨cur,y1,y2⟩:=hrP2
        refine ⟨cur,y1,fun j hj => ?_⟩
        rw [y2 j hj]
        show some (((List.range (n5*4)).map H).getD j undef)=_
        rw [List.getD_eq_getElem?_getD,List.getElem?_map,List.getElem?_range hj]
        rfl
     have b7:W7.cell? ⟨wo.heap.size,5,none⟩=some (.slice a5 n5 c5):=by
      rw [cell_of (HI0.out.box.trans (congrArg some hbx))];rfl
     rw [←hW7]
     clear hW7 HX5 HO5 HC5 h5c h5f b5
     go_wp2
     go_loopw [6,7,48] (fun _ _ v48 wz=>∃ m:Nat,v48 = .int .i64 m∧m≤n5∧Hid (IP w wo wz wc.heap.size w.heap.size gR (rs.length*7) (updF (updF (updF (updF GG (k*7+1) A) (k*7+2) K) (k*7+3) P) (k*7+5) (.slice q1 n5 q3)) A K P r q1 n5 q3 H wo.heap.size box m)) (fun _ _ v48 _=>n5 - (intOf v48).toNat)
     case atStart=>exact ⟨0,rfl,by omega,HI0.out⟩
     case round=>
      obtain ⟨m,rfl,hm,HM⟩:=hrel
      by_cases hmt:m<n5
      · have hmI:(m:Int)<(n5:Int):=by omega
        have hml:m<r.res.length:=by have:=HN5.out;omega
        obtain ⟨hcell,z0,z1,z2,z3⟩:=HH'.out m hml
        obtain ⟨pg,po,ea,_⟩:=hcell 0 (by omega)
        subst ea
        have hc4:∀ i,i<4→wr.cell? ⟨pg,po+m*4+i,none⟩=some (H (m*4+i)):=fun i hi=>by
         obtain ⟨pg',po',ea,hc⟩:=hcell i hi
         injection ea with ea
         injection ea with ea1 ea2 _
         subst ea1 ea2
         rw [Nat.add_assoc]
         exact cell_below hc HM.out.bel (Nat.le_refl _)
        have hM:=HM.out
        obtain ⟨gP,eq1,hq3,hgP0,hgPs,hgPo,hgPR,hgPb,H',hrP,hnew,hold,hsc⟩:=hM.pc.resolve_left (by omega)
        subst eq1
        obtain ⟨x1,x2,x3,hx⟩:=z3.sl
        have k0:wr.cell? ⟨pg,po+m*4,none⟩=some (.int .i64 r.res[m].k):=by rw [←z0];exact hc4 0 (by omega)
        have k1:wr.cell? ⟨pg,po+m*4+1,none⟩=some (.int .i64 r.res[m].u):=by rw [←z1];exact hc4 1 (by omega)
        have k2:wr.cell? ⟨pg,po+m*4+2,none⟩=some (.int .i64 r.res[m].y):=by rw [←z2];exact hc4 2 (by omega)
        have k3:wr.cell? ⟨pg,po+m*4+3,none⟩=some (.slice x1 x2 x3):=by rw [←hx];exact hc4 3 (by omega)
        have hl5:r.res[m].tl.length≤4294967296:=by
         have hO:=HRX.out.2.1.pc _ (List.getElem_mem hml)
         exact Nat.le_trans (pcE_tl hO) (by omega)
        have hrR:wr.cell? ⟨gR,k*7+5,none⟩=some (.slice (some ⟨gP,0,none⟩) n5 q3):=by rw [hM.row.cell (by omega),updF_at]
        have hrR2:∀ ob,(wr.alloc ob).cell? ⟨gR,k*7+5,none⟩=some (.slice (some ⟨gP,0,none⟩) n5 q3):=fun ob=>cell_up hrR ob
        have HCl:Hid (∀ W,Grown wr W→Calls Tryz.prog 61 #[.slice x1 x2 x3] W fun e w'=>∃ y1 y2 y3,e = .returned (.slice y1 y2 y3)∧Rob (fun i=>i<wr.heap.size) w' (fun V=>Rs V (.slice y1 y2 y3) r.res[m].tl)∧Below wr.heap.size wr w'):=fun W hgw=>by
         refine (clone_rs (.slice x1 x2 x3) r.res[m].tl W (by rw [←hx];exact (z3.below hM.bel (Nat.le_refl _)).below hgw.below (Nat.le_refl _)) hl5).mono ?_
         rintro e w' ⟨v',rfl,⟨y1,y2,y3,rfl⟩,h1,h2⟩
         exact ⟨y1,y2,y3,rfl,h1.less (fun i _ hi=>Nat.lt_of_lt_of_le hi hgw.size),hgw.below.trans (h2.mono hgw.size)⟩
        have HCE:Hid (∀ w',Below wr.heap.size wr w'→w'.cell? ⟨gR,k*7+5,none⟩=some (.slice (some ⟨gP,0,none⟩) n5 q3)∧w'.cell? ⟨gP,m*4+3,none⟩=some (.slice x1 x2 x3)∧w'.frozen? ⟨gP,m*4+3,none⟩=false):=fun w' hb=>by
         have hr2:=hrP.fr (fr_below hb (Nat.le_refl _) fun _=>False) id
         refine ⟨cell_below hrR hb (Nat.le_refl _),?_,hr2.free⟩
         rw [hr2.cell (by omega),hold m (Nat.le_refl _),hx]
        have HMM:=Hid.mk' (And.intro hM (And.intro hrP (And.intro hnew (And.intro hold hsc))))
        obtain ⟨pk,hpk⟩:∃ pk,r.res[m].k=pk:=⟨_,rfl⟩
        obtain ⟨pu,hpu⟩:∃ pu,r.res[m].u=pu:=⟨_,rfl⟩
        obtain ⟨py,hpy⟩:∃ py,r.res[m].y=py:=⟨_,rfl⟩
        rw [hpk] at k0
        rw [hpu] at k1
        rw [hpy] at k2
        have m0:(0:Int)≤(m:Int):=by omega
        have kI0:(0:Int)≤(k:Int):=by omega
        have mqI:(m:Int)<(q3:Int):=by omega
        clear hM hrP hnew hold hsc hcell hc4 z0 z1 z2 z3 hpk hpu hpy hl5
        go_wp2
        go_region_with (go_at_call 61;go_must (refine (HCl.out _ (by (repeat (first | exact Grown.refl _ | refine Grown.alloc ?_ _ | refine Grown.drew ?_ | refine Grown.drewN ?_ _ | refine Grown.quiet ?_ _ _)))).mono ?_;rintro e w8 ⟨y1,y2,y3,rfl,hr8,hb8⟩;have H8:=Hid.mk' (And.intro hr8 hb8);obtain ⟨e81,e82,e83⟩:=HCE.out w8 hb8;clear hr8 hb8))
        all_goals
         have HIP:Hid (IP w wo (w8.setCell ⟨gP,m*4+3,none⟩ (.slice y1 y2 y3)) wc.heap.size w.heap.size gR (rs.length*7) (updF (updF (updF (updF GG (k*7+1) A) (k*7+2) K) (k*7+3) P) (k*7+5) (.slice (some ⟨gP,0,none⟩) n5 q3)) A K P r (some ⟨gP,0,none⟩) n5 q3 H wo.heap.size box (m+1)):=by
          obtain ⟨hM,hrP,hnew,hold,hsc⟩:=HMM.out
          obtain ⟨hr8,hb8⟩:=H8.out
          have hfb:∀ X,Fr wr w8 X:=fun X=>fr_below hb8 (Nat.le_refl _) X
          have hfs:=fr_set w8 gP (m*4+3) (.slice y1 y2 y3)
          have hgPl:=hrP.lt
          have hgRl:=hM.row.lt
          have up:∀ {Q:World→Prop},Rob (fun i=>i<w.heap.size∨i=gR∨wc.heap.size≤i) wr Q→Rob (fun i=>i<w.heap.size∨i=gR∨wc.heap.size≤i) (w8.setCell ⟨gP,m*4+3,none⟩ (.slice y1 y2 y3)) Q:=fun {Q} hq=>(hq.fr (hfb fun _=>False) fun _ _ e=>e.elim).fr hfs fun i _ e => .inr (.inr (by omega))
          refine ⟨(hM.row.fr (hfb fun _=>False) id).fr hfs (fun e=>hgPR e.symm),up hM.ra,up hM.rk,up hM.rp,(hM.bel.trans (hb8.mono hM.bel.size)).setCell (by exact hgP0) _,(hM.fr.trans (hfb _) fun _ _ e=>e).trans hfs fun i hi e=>(by omega),(hfs.block _ (by have:=blk_lt hM.box;have:=hb8.size;omega) (fun e=>hgPb e.symm)).trans ((hb8.block _ (blk_lt hM.box)).trans hM.box),.inr ⟨gP,rfl,hq3,hgP0,hgPs,hgPo,hgPR,hgPb,updF H' (m*4+3) (.slice y1 y2 y3),(hrP.fr (hfb fun _=>False) id).set _ _,fun j hj hjm => ?_,fun j hj => ?_,fun j => ?_⟩⟩
          · by_cases e:j=m
            · subst e
              rw [updF_at]
              refine Rob.fr (hr8.less fun i _ hi => ?_) hfs fun i _ e => .inr (.inr e)
              rcases hi with hi | hi | hi
              · have:=hM.bel.size;show i<wr.heap.size;omega
              · show i<wr.heap.size;omega
              · show i<wr.heap.size;omega
            · rw [updF_ne _ _ (by omega)]
              exact ((hnew j hj (by omega)).fr (hfb fun _=>False) fun _ _ e=>e.elim).fr hfs fun i _ e => .inr (.inr e)
          · rw [updF_ne _ _ (by omega)]
            exact hold j (by omega)
          · rw [updF_ne _ _ (by omega),updF_ne _ _ (by omega),updF_ne _ _ (by omega)]
            exact hsc j
         go_wp2
         exact ⟨⟨m+1,by go_num,by omega,HIP.out⟩,by simp [intOf];omega⟩
      · obtain rfl:m=n5:=by omega
        have hge:¬ (m:Int)<(m:Int):=by omega
        have HOQ:Hid (∃ G,OQ w wr w.heap.size gR rs F (k+1) G):=by
         have hM:=HM.out
         have hG:=HGG.out
         refine ⟨_,hM.row,fun j hj hjk => ?_,fun i hi => ?_,hM.bel⟩
         · by_cases e:j=k
           · subst e
             obtain ⟨_,_,_,hrk⟩:=HRX.out
             intro V hf
             have f5:(updF (updF (updF (updF GG (j*7+1) A) (j*7+2) K) (j*7+3) P) (j*7+5) (.slice q1 m q3)) (j*7+5) = .slice q1 m q3:=updF_at _ _ _
             have f1:(updF (updF (updF (updF GG (j*7+1) A) (j*7+2) K) (j*7+3) P) (j*7+5) (.slice q1 m q3)) (j*7+1)=A:=by rw [updF_ne _ _ (by omega),updF_ne _ _ (by omega),updF_ne _ _ (by omega),updF_at]
             have f2:(updF (updF (updF (updF GG (j*7+1) A) (j*7+2) K) (j*7+3) P) (j*7+5) (.slice q1 m q3)) (j*7+2)=K:=by rw [updF_ne _ _ (by omega),updF_ne _ _ (by omega),updF_at]
             have f3:(updF (updF (updF (updF GG (j*7+1) A) (j*7+2) K) (j*7+3) P) (j*7+5) (.slice q1 m q3)) (j*7+3)=P:=by rw [updF_ne _ _ (by omega),updF_at]
             have fo:∀ i,j*7≤i→i≠j*7+1→i≠j*7+2→i≠j*7+3→i≠j*7+5→(updF (updF (updF (updF GG (j*7+1) A) (j*7+2) K) (j*7+3) P) (j*7+5) (.slice q1 m q3)) i=F i:=fun i h0 h1 h2 h3 h5=>by rw [updF_ne _ _ h5,updF_ne _ _ h3,updF_ne _ _ h2,updF_ne _ _ h1,hG.old i h0]
             obtain ⟨v0,v4,v6,_⟩:=(HF.out j hj).2
             have less:∀ {Q:World→Prop},Rob (fun i=>i<w.heap.size∨i=gR∨wc.heap.size≤i) wr Q→Q V:=fun {Q} hq=>hq V (hf.mono fun i _ e=>e.elim .inl fun e => .inr (.inl e))
             refine ⟨by rw [fo _ (by omega) (by omega) (by omega) (by omega) (by omega)];exact v0,by rw [fo _ (by omega) (by omega) (by omega) (by omega) (by omega)];exact v4,by rw [fo _ (by omega) (by omega) (by omega) (by omega) (by omega)];exact v6,?_⟩
             rw [f1,f2,f3,f5,hrk]
             refine ⟨less hM.ra,less hM.rk,less hM.rp,?_⟩
             rcases hM.pc with h5 | ⟨gP,eq1,hq3,hgP0,hgPs,hgPo,hgPR,hgPb,H',hrP,hnew,hold,hsc⟩
             · have hr0:r.res=[]:=List.eq_nil_of_length_eq_zero (by have:=HN5.out;omega)
               rw [hr0,h5]
               exact ⟨q1,q3,rfl,Nat.zero_le _,.inl rfl⟩
             · refine ⟨q1,q3,by rw [HN5.out],by rw [HN5.out];exact hq3,.inr ⟨gP,0,eq1,fun i hi => ?_⟩⟩
               obtain ⟨_,z0,z1,z2,z3⟩:=HH'.out i hi
               have hrV:=hrP.fr hf (fun e=>by rcases e with e | e <;> omega)
               have hi5:i<m:=by have:=HN5.out;omega
               rw [Nat.zero_add]
               refine ⟨H' (i*4+3),?_,?_,?_,hrV.cell (by omega),?_⟩
               · rw [hrV.cell (by omega),(hsc i).1,z0]
               · rw [hrV.cell (by omega),(hsc i).2.1,z1]
               · rw [hrV.cell (by omega),(hsc i).2.2,z2]
               · exact hnew i hi hi5 V (hf.mono fun i _ e=>e.elim .inl fun e => .inr (.inl e))
           · have hold:=(hG.new j hj (by omega)).fr hM.fr fun i _ e => .inr e
             intro V hf
             have hv:=hold V hf
             unfold RulV at hv ⊢
             rw [updF_ne _ _ (by omega),updF_ne _ _ (by omega),updF_ne _ _ (by omega),updF_ne _ _ (by omega),updF_ne _ _ (by omega),updF_ne _ _ (by omega),updF_ne _ _ (by omega),updF_ne _ _ (by omega),updF_ne _ _ (by omega),updF_ne _ _ (by omega),updF_ne _ _ (by omega),updF_ne _ _ (by omega),updF_ne _ _ (by omega),updF_ne _ _ (by omega),updF_ne _ _ (by omega),updF_ne _ _ (by omega),updF_ne _ _ (by omega),updF_ne _ _ (by omega),updF_ne _ _ (by omega),updF_ne _ _ (by omega),updF_ne _ _ (by omega),updF_ne _ _ (by omega),updF_ne _ _ (by omega),updF_ne _ _ (by omega),updF_ne _ _ (by omega),updF_ne _ _ (by omega),updF_ne _ _ (by omega),updF_ne _ _ (by omega)]
             exact hv
         · rw [updF_ne _ _ (by omega),updF_ne _ _ (by omega),updF_ne _ _ (by omega),updF_ne _ _ (by omega)]
           exact hG.old i (by omega)
        clear HM
        go_wp2
        go_roundw
        case rel=>
         exact ⟨k+1,by go_num,by omega,HOQ.out⟩
        case measure=>simp [intOf];omega
  · obtain rfl:k=n:=by omega
    have hge:¬ (k:Int)<(k:Int):=by omega
    have HGG:=Hid.mk' hG
    clear hG
    go_wp2
    go_ret
    have hG:=HGG.out
    refine ⟨.slice (some ⟨gR,0,none⟩) k cap,rfl,fun W hf=>⟨some ⟨gR,0,none⟩,cap,by rw [HN.out],by rw [HN.out];exact hcap,.inr ⟨gR,0,rfl,fun j hj => ?_⟩⟩,hG.bel⟩
    obtain ⟨v0,v4,v6,hRR⟩:=(hG.new j hj (by have:=HN.out;omega)) W (hf.mono fun i _ e => .inl e)
    have hrW:=hG.row.fr hf (fun e=>by have:gR<w.heap.size:=e;omega)
    rw [Nat.zero_add]
    exact ⟨_,_,_,_,by rw [←v0];exact hrW.cell (by omega),hrW.cell (by omega),hrW.cell (by omega),hrW.cell (by omega),by rw [←v4];exact hrW.cell (by omega),hrW.cell (by omega),by rw [←v6];exact hrW.cell (by omega),hRR⟩
theorem ownRules_any (v:Value) (rs:List Rl) (w:World) (h:PsR w v rs) (hn:rs.length≤256) (hO:∀ r∈rs,Ok r) :
 Calls Tryz.prog 34 #[v] w fun e w'=>∃ v',e = .returned v'∧IsSl v'∧Rob (fun k=>k<w.heap.size) w' (fun W=>PsR W v' rs)∧Below w.heap.size w w':=by
 obtain ⟨A,c,rfl,h1,h2⟩:=h
 by_cases h0:rs=[]
 · subst h0
   have HC:Hid (Calls Tryz.prog 58 #[.slice A 0 c] w fun e w'=>∃ v',e = .returned v'∧w'.ownsRow w.heap.size 53 7 v' 0 []∧Below w.heap.size w w'):=clone58 w A 0 c [] (fun _=>rfl) rfl (fun j u hj=>by simp at hj) (by simp) (by omega)
   rw [show ([]:List Rl).length=0 from rfl]
   clear h1 h2 hn hO
   go_enter Tryz.func34,Tryz.ntmps34
   go_wp2_with (go_at_call 58;refine HC.out.mono ?_;rintro e w1 ⟨v1,rfl,hO,hB⟩;obtain ⟨q1,q3,hv⟩:=own_sl2 hO;subst hv;have HO:=Hid.mk' (And.intro hO hB);clear hO hB)
   go_loopw [4,5,6,7,12,48] (fun _ _ _ _ v12 _ wr=>v12 = .int .i64 0∧wr=w1) (fun _ _ _ _ _ _ _=>0)
   case atStart=>exact ⟨rfl,rfl⟩
   case round=>
    obtain ⟨rfl,rfl⟩:=hrel
    go_wp2
    go_ret
    refine ⟨.slice q1 0 q3,rfl,⟨_,_,_,rfl⟩,fun W _=>⟨q1,q3,rfl,Nat.zero_le _,.inl rfl⟩,HO.out.2⟩
 · obtain ⟨rg,ro,rfl,hR⟩:=h2.resolve_left h0
   refine (ownRules_some rg ro c rs w hR hn h0 hO).mono ?_
   rintro e w' ⟨v',rfl,h3,h4⟩
   obtain ⟨a,c',e,_⟩:=h3.now
   exact ⟨v',rfl,⟨a,_,c',e⟩,h3,h4⟩
theorem zip1 (t:Tmp) (v:Value):(#[t]:Array Tmp).zip #[v]=#[(t,v)]:=by simp [List.zip_toArray]
structure Made (W0:World) (rs:List Rl) (s:ByteArray) (b1 b2:Nat) (v:Value) (st:St):Prop where
 pw:PW W0 v rs st
 c1:W0.cell? ⟨b1,0,none⟩=some v
 c2:W0.cell? ⟨b2,0,none⟩=some (.string s)
 sz:s.size≤16384
 end3:G3 rs (intsU (units s)) (endOf rs s).1 (endOf rs s).2 []
set_option maxHeartbeats 8000000 in
theorem steps1_seq {W0 V:World} {rs:List Rl} {s:ByteArray} {b1 b2:Nat} {v:Value} {st:St} (h:Made W0 rs s b1 b2 v st) (hV:Below W0.heap.size W0 V) (n l:Nat) (hn:2≤n) :
 SeqZ n 35 #[] #[.pointer (some ⟨b1,0,none⟩),.pointer (some ⟨b2,0,none⟩)] encS (endOf rs s).1 W0.heap.size (fun k=>V.heap.size≤k) (fun _=>True) V l:=by
 intro J Jx hJ hJx hY h0
 have hn1:1≤n:=by omega
 have hsl:IsSl v:=by
  obtain ⟨a,c,e,_⟩:=h.pw.psr
  exact ⟨a,_,c,e⟩
 obtain ⟨v1,v2,v3,hv⟩:=hsl
 subst hv
 have c1:V.cell? ⟨b1,0,none⟩=some (.slice v1 v2 v3):=cell_below h.c1 hV (Nat.le_refl _)
 have c2:V.cell? ⟨b2,0,none⟩=some (.string s):=cell_below h.c2 hV (Nat.le_refl _)
 have c1':=fun o=>cell_up c1 o
 have c2':=fun o=>cell_up c2 o
 have hs:=h.sz
 have HSt:Hid (∀ W,Grown V W→Calls Tryz.prog 26 #[.slice v1 v2 v3,.string s] W (StE W rs (.slice v1 v2 v3) s)):=fun W hg=>start_any _ rs s W ((h.pw.psr.below hV (Nat.le_refl _)).grown hg) (by have:=h.pw.fin.n;omega) (fun r hr=>by have:=(chk_ok (h.pw.ck r hr)).k8;omega) (by omega)
 obtain ⟨xf,hxf⟩:∃ xf,(endOf rs s).1=xf:=⟨_,rfl⟩
 obtain ⟨df,hdf⟩:∃ df,(endOf rs s).2=df:=⟨_,rfl⟩
 have HM:=Hid.mk' h
 have hG:=h.end3
 rw [hxf,hdf] at hG
 rw [hxf] at hY ⊢
 have HG:=Hid.mk' hG
 have HHY:=Hid.mk' hY
 clear hY h hG hxf hdf
 refine callsIn_of_wp_marks Tryz.func35 rfl trivial ?_ rfl
 simp only [Tryz.ntmps35,List.size_toArray,List.length_cons,List.length_nil,Nat.reduceAdd,Nat.reduceSub,Array.replicate_succ,Array.replicate_zero,List.push_toArray,List.append_toArray,List.nil_append,List.cons_append]
 gi_wp2_with (refine ⟨trivial,?_⟩;gi_at_call 26;refine (callsIn_wide.2 (HSt.out _ (by (repeat (first | exact Grown.refl _ | refine Grown.alloc ?_ _ | refine Grown.drew ?_))))).mono ?_;rintro e w2 ⟨wb,mb,lv,uv,d,rfl,hQ⟩;have HQ:=Hid.mk' hQ;clear hQ)
 obtain ⟨w1,hw1⟩:∃ w1,w1=V.alloc (.cells #[.func (.yield l) #[] #[]] 87):=⟨_,rfl⟩
 have hw1s:w1.heap.size=V.heap.size+1:=by rw [hw1];simp
 have hgV:Grown V w1:=by rw [hw1];exact (Grown.refl _).alloc _
 have hbx1:w1.heap[V.heap.size]? = some (.cells #[.func (.yield l) #[] #[]] 87 (0,0)):=by rw [hw1];exact heap_alloc_new _ _
 rw [←hw1] at HQ
 obtain ⟨h,hh⟩:∃ h,h=w2.heap.size:=⟨_,rfl⟩
 have hb12:w1.heap.size≤h:=by rw [hh];exact HQ.out.bel.size
 have hl0:(intsU (units s)).length≤16384:=by rw [intsU_length];have:=units_len s;omega
 have hW0:=hV.size
 have hZb:∀ k,(ZW w1.heap.size h k∨h≤k)→V.heap.size+1≤k:=fun k hk=>by rcases hk with (hk | hk) | hk <;> omega
 have hb1:Below W0.heap.size W0 w1:=hV.trans (hgV.below.mono hW0)
 have hf12:∀ X,Fr V w2 X:=fun X=>(fr_grown hgV X).trans (fr_below HQ.out.bel (Nat.le_refl _) X) fun _ _ e=>e
 have hbx2:w2.heap[V.heap.size]? = some (.cells #[.func (.yield l) #[] #[]] 87 (0,0)):=(HQ.out.bel.block _ (by omega)).trans hbx1
 clear hw1 c1 c2 c1' c2' hbx1
 refine wpIn_overZ (enc:=encS) (by omega) (gf:=27) (pa:=#[.pointer (some ⟨wb,0,none⟩)]) (lb:=#[]) rfl (enters_of Tryz.func27 (by kernel_rfl) rfl) (xf:=xf) (b:=W0.heap.size) (h:=h) (Z:=ZW w1.heap.size h) (E:=fun Y=>WkAt (ZW w1.heap.size h) (h+2) W0 Y w1.heap.size wb mb (.slice v1 v2 v3) lv rs d (intsU (units s)) xf df []) hh (by omega)
  (fun e=>by rcases e with e | e <;> omega) (fun e=>by rcases e with e | e <;> omega)
  (fun r=>steps_seq HM.out.pw hl0 (units_all s) HG.out (by
   have:=wk_start HM.out.pw hs hb1 HQ.out (((Grown.refl w2).alloc (.deferred (some []))).alloc (.loop r)) (by simp)
   rw [←hh] at this
   exact this) (Nat.le_refl _) _ _ (by omega))
  (fun X o hX=>by
   obtain ⟨dv,uv,n,room,uu,f,hk⟩:=hX
   exact ⟨dv,uv,n,room,uu,f,hk.keep (KAll.put o (fun e=>by rcases e with e | e <;> omega) (by omega)) (Nat.le_refl _)⟩)
  (fun _=>rfl) (fun pre W=>J pre W∧W.heap[V.heap.size]? = some (.cells #[.func (.yield l) #[] #[]] 87 (0,0))) (fun c pre W=>c = .ret∧Jx pre W)
  (fun pre X Y hX hf=>⟨hJ _ _ _ hX.1 (hf.mono fun k _ hk=>by have:=hZb k hk;omega),(hf.block _ (blk_lt hX.2) (fun hk=>by have:=hZb _ hk;omega)).trans hX.2⟩)
  (fun c pre X Y hX hf=>⟨hX.1,hJx _ _ _ hX.2 (hf.mono fun k _ hk=>by have:=hZb k hk;omega)⟩)
  ⟨hJ _ _ _ h0 (hf12 _),hbx2⟩
  (fun x W => { tmps:=#[.func (.yield l) #[] #[],.pointer (some ⟨b1,0,none⟩),.pointer (some ⟨b2,0,none⟩),.pointer (some ⟨V.heap.size,0,none⟩),.pointer (some ⟨W.heap.size,0,none⟩),.slice v1 v2 v3,.string s,.pointer (some ⟨wb,0,none⟩),.func (.func 27) #[.pointer (some ⟨wb,0,none⟩)] #[],.agg (fs1 x).toArray,undef,undef,undef,undef],defers:=[] })
  (fun x W=>W.alloc (.cells (fs1 x).toArray 47)) (fun _ W=>(Grown.refl W).alloc _) ?assign ?body ?done ?stop
 case assign=>
  intro l x W K hK
  rw [show (#[9]:Array Tmp).zip (encS x)=#[(9,Value.agg (fs1 x).toArray)] from zip1 _ _]
  unfold fs1 at hK ⊢
  gi_wp2
  first | exact hK | (simp only [List.foldl_toArray,List.foldl_cons,List.foldl_nil,List.setIfInBounds_toArray,List.set_cons_succ,List.set_cons_zero];gi_wp2;exact hK)
 case body=>
  rintro l' pre x W X ⟨hI,hbox⟩ hpre hWs hXs hXk
  have cb:X.cell? ⟨V.heap.size,0,none⟩=some (.func (.yield l) #[] #[]):=by rw [cell_of hbox];rfl
  have hcx:X.heap[W.heap.size]? = some (.cells (fs1 x).toArray 47 (0,0)):=by rw [hXk _ (by omega)];exact heap_alloc_new W _
  have k0:X.cell? ⟨W.heap.size,0,none⟩=some (.int .i64 x.r):=by rw [cell_of hcx];rfl
  have k1:X.cell? ⟨W.heap.size,1,none⟩=some (.int .i64 x.d):=by rw [cell_of hcx];rfl
  have k2:X.cell? ⟨W.heap.size,2,none⟩=some (.int .i64 x.l):=by rw [cell_of hcx];rfl
  have k3:X.cell? ⟨W.heap.size,3,none⟩=some (.int .i64 x.t):=by rw [cell_of hcx];rfl
  have k4:X.cell? ⟨W.heap.size,4,none⟩=some (.int .i64 x.a):=by rw [cell_of hcx];rfl
  have k5:X.cell? ⟨W.heap.size,5,none⟩=some (.int .i64 x.b):=by rw [cell_of hcx];rfl
  obtain ⟨fn,tmps,assign,bd,hy,hR⟩:=yield_wide (l1:=l') (m':=n - 1 - 1 - 1) (HHY.out pre x X hI hpre)
  dsimp only [encS] at hy
  unfold fs1 at hy
  have HR:=Hid.mk' hR
  have HBX:=Hid.mk' hbox
  clear hR hcx hbox hI hXk hXs
  gi_wp2
  refine ⟨fun h=>absurd h (by simp [Fence.wide]),?_⟩
  refine HR.out.mono ?_
  have hwk:∀ {Y:World},KAll (fun k=>V.heap.size≤k) W0.heap.size X Y→KAll (fun k=>ZW w1.heap.size h k∨h≤k) W0.heap.size X Y∧Y.heap[V.heap.size]? = some (.cells #[.func (.yield l) #[] #[]] 87 (0,0)):=fun hk=>⟨hk.mono (fun k hz=>by have:=hZb k hz;omega) (Nat.le_refl _),hk.same _ _ (Nat.le_refl _) HBX.out⟩
  rintro e Y (⟨rfl,hJ3,hk3⟩ | ⟨rfl,hJx3,hk3⟩)
  · gi_wp2
    exact ⟨(hwk hk3).1,hJ3,(hwk hk3).2⟩
  · gi_wp2
    exact ⟨(hwk hk3).1,rfl,hJx3⟩
 case done=>
  rintro D W hD ⟨hI,_⟩ hE hK
  clear hE
  gi_wp2
  refine ⟨by simp,.inl ⟨_,_,rfl,run_takeDeferred hK,?_⟩⟩
  refine ⟨_,results_none rfl _ _ _,⟨_,rfl⟩,.inl ⟨?_,trivial⟩⟩
  exact hJ _ _ _ hI ((fr_put _).mono fun k _ e=>by omega)
 case stop=>
  rintro D c pre W hD hpre ⟨rfl,hx⟩ hK
  gi_wp2
  refine ⟨by simp,.inl ⟨_,_,rfl,run_takeDeferred hK,?_⟩⟩
  refine ⟨_,results_none rfl _ _ _,⟨_,rfl⟩,.inr ⟨pre,hpre,?_⟩⟩
  exact hJx _ _ _ hx ((fr_put _).mono fun k _ e=>by omega)
def StpQ (w:World) (rs:List Rl) (s:ByteArray) (e:Ending) (w':World):Prop:=
 Below w.heap.size w w'∧((mayE rs s≠0∧e = .returned (.tuple #[.nilFunc,.int .i64 (mayE rs s)]))∨(mayE rs s=0∧∃ b1 b2 v,e = .returned (.tuple #[.func (.func 35) #[] #[.pointer (some ⟨b1,0,none⟩),.pointer (some ⟨b2,0,none⟩)],.int .i64 0])∧w.heap.size≤b1∧w.heap.size≤b2∧w'.heap[b1]? = some (.cells #[v] 22 (0,0))∧w'.heap[b2]? = some (.cells #[.string s] 9 (0,0))∧Rob (fun k=>k<w.heap.size) w' (fun W=>PsR W v rs)))
set_option maxHeartbeats 4000000 in
theorem steps_any (v:Value) (rs:List Rl) (s:ByteArray) (w:World) (hT:Tab w) (h:PsR w v rs):Calls Tryz.prog 13 #[.agg #[v],.string s] w (StpQ w rs s):=by
 have HC:Hid (∀ W,Grown w W→Calls Tryz.prog 25 #[.agg #[v],.string s] W fun e w'=>e = .returned (.int .i64 (mayE rs s))∧Below W.heap.size W w'):=fun W hg=>may_any v rs s W (hT.grown hg) (h.grown hg)
 obtain ⟨E,hE2⟩:∃ E,mayE rs s=E:=⟨_,rfl⟩
 have HE:=Hid.mk' hE2
 rw [hE2] at HC
 have HP:=Hid.mk' h
 obtain ⟨ra,rc,hv,hx1,hx2⟩:=h
 subst hv
 obtain ⟨n,hn⟩:∃ n,rs.length=n:=⟨_,rfl⟩
 rw [hn] at HC HP ⊢
 by_cases hE:E=0
 · subst hE
   obtain ⟨st,hw,hs,hF,hall,hck,hG⟩:=may_ok hE2
   have HOw:Hid (∀ W,Below w.heap.size w W→Calls Tryz.prog 34 #[.slice ra n rc] W fun e w'=>∃ y1 y2 y3,e = .returned (.slice y1 y2 y3)∧Rob (fun k=>k<W.heap.size) w' (fun V=>PsR V (.slice y1 y2 y3) rs)∧Below W.heap.size W w'):=fun W hb=>(ownRules_any _ rs W (HP.out.below hb (Nat.le_refl _)) hF.n fun r hr=>chk_ok (hck r hr)).mono (by
    rintro e w' ⟨v',rfl,⟨y1,y2,y3,rfl⟩,h1,h2⟩
    exact ⟨y1,y2,y3,rfl,h1,h2⟩)
   clear hx1 hx2 hE2 hT hw hs hF hall hck hG hn
   go_enter Tryz.func13,Tryz.ntmps13
   go_wp2_with fail
   refine (HC.out _ (by (repeat (first | exact Grown.refl _ | refine Grown.alloc ?_ _ | refine Grown.drew ?_)))).mono ?_
   rintro e w1 ⟨rfl,hB⟩
   have hz:((w.alloc (.cells #[.slice ra n rc] 24)).alloc (.cells #[.string s] 9)).heap.size=w.heap.size+2:=by simp
   have hk1:w1.heap[w.heap.size]? = some (.cells #[.slice ra n rc] 24 (0,0)):=by
    rw [hB.block w.heap.size (by omega)]
    exact (((Grown.refl (w.alloc (.cells #[.slice ra n rc] 24))).alloc (.cells #[.string s] 9)).below.block w.heap.size (by simp)).trans (heap_alloc_new w _)
   have hk2:w1.heap[w.heap.size+1]? = some (.cells #[.string s] 9 (0,0)):=by
    rw [hB.block (w.heap.size+1) (by omega)]
    simpa using heap_alloc_new (w.alloc (.cells #[.slice ra n rc] 24)) (.cells #[.string s] 9)
   have c1:w1.cell? ⟨w.heap.size,0,none⟩=some (.slice ra n rc):=(cell_of hk1).trans rfl
   have HK2:=Hid.mk' hk2
   have HB:Hid (Below w.heap.size w w1):=(((Grown.refl w).alloc _).alloc _).below.trans (hB.mono (by omega))
   clear hB hk1 hk2 hz
   go_wp2_with (go_at_call 34;refine (HOw.out _ HB.out).mono ?_;rintro e w2 ⟨y1,y2,y3,rfl,hr2,hb2⟩;have H2:=Hid.mk' (And.intro hr2 hb2);clear hr2 hb2)
   go_ret2
   have hb2:=H2.out.2
   have hbb:Below w.heap.size w w2:=HB.out.trans (hb2.mono HB.out.size)
   have hgr:Grown w2 (w2.alloc (.cells #[.slice y1 y2 y3] 22)):=(Grown.refl _).alloc _
   refine ⟨hbb.trans (hgr.below.mono hbb.size),.inr ⟨HE.out,w2.heap.size,w.heap.size+1,.slice y1 y2 y3,rfl,hbb.size,by omega,heap_alloc_new _ _,?_,?_⟩⟩
   · exact (hgr.below.block _ (by have:=blk_lt HK2.out;have:=hb2.size;omega)).trans ((hb2.block _ (blk_lt HK2.out)).trans HK2.out)
   · exact (H2.out.1.less fun k _ hk=>Nat.lt_of_lt_of_le hk HB.out.size).fr (fr_grown hgr fun _=>False) fun _ _ e=>e.elim
 · have hE3:(E != 0)=true:=by simpa using hE
   clear hx1 hx2 hE2 hT hn HP
   go_enter Tryz.func13,Tryz.ntmps13
   go_wp2_with (go_at_call 25;refine (HC.out _ (by (repeat (first | exact Grown.refl _ | refine Grown.alloc ?_ _ | refine Grown.drew ?_)))).mono ?_;rintro e w1 ⟨rfl,hB⟩;have HB:Hid (Below w.heap.size w w1):=(((Grown.refl w).alloc _).alloc _).below.trans (hB.mono (by simp;omega));clear hB)
   go_ret2
   exact ⟨HB.out,.inl ⟨by rw [HE.out];exact hE,by rw [HE.out];rfl⟩⟩
theorem fld0 (W:World) (a d:Option Addr) (b c e f:Nat):(Instr.field 80 (.agg #[.slice a b c,.slice d e f]) 0).run Tryz.prog W = .ok (.slice a b c) W:=by kernel_rfl
theorem fld1 (W:World) (a d:Option Addr) (b c e f:Nat):(Instr.field 80 (.agg #[.slice a b c,.slice d e f]) 1).run Tryz.prog W = .ok (.slice d e f) W:=by kernel_rfl
set_option maxHeartbeats 4000000 in
theorem rrun_any (v:Value) (rs:List Rl) (s:ByteArray) (w:World) (h:PsR w v rs):Calls Tryz.prog 11 #[.agg #[v],.string s] w fun e w'=>e = .returned (.tuple #[.string (runT rs s),.int .i64 (mayE rs s)])∧Below w.heap.size w w':=by
 have HC:Hid (∀ W,Grown w W→Calls Tryz.prog 29 #[.agg #[v],.string s] W fun e w'=>e = .returned (.int .i64 (mayE rs s))∧Below W.heap.size W w'):=fun W hg=>rmay_any v rs s W (h.grown hg)
 have HP:=Hid.mk' h
 obtain ⟨ra,rc,hv,hx1,hx2⟩:=h
 subst hv
 obtain ⟨n,hn⟩:∃ n,rs.length=n:=⟨_,rfl⟩
 rw [hn] at HC HP ⊢
 clear hx1 hx2 hn
 by_cases hE:mayE rs s=0
 · obtain ⟨st,hw,hs,hF,hall,hck,hG⟩:=may_ok hE
   have HGo:Hid (∀ W,Below w.heap.size w W→Calls Tryz.prog 31 #[.agg #[.slice ra n rc],.string s] W fun e w'=>∃ u1 u2 u3 s1 s2 s3,e = .returned (.agg #[.slice u1 u2 u3,.slice s1 s2 s3])∧IR w' (.slice u1 u2 u3) (endOf rs s).2∧Below W.heap.size W w'):=fun W hb=>(rgo_any _ rs st _ s W (HP.out.below hb (Nat.le_refl _)) hw (by omega)).mono (by
    rintro e w' ⟨uv,sv,d,xs,rfl,⟨u1,u2,u3,rfl⟩,⟨s1,s2,s3,rfl⟩,hO,_,_,_,_,h3,hb'⟩
    obtain ⟨_,rfl⟩:=h3.one hG
    exact ⟨u1,u2,u3,s1,s2,s3,rfl,hO.ir,hb'⟩)
   have hlen:=hG.lens hF hck
   have hl0:(intsU (units s)).length≤16384:=by rw [intsU_length];have:=units_len s;omega
   have HTx:Hid (∀ W u,IR W u (endOf rs s).2→Calls Tryz.prog 30 #[u] W fun e w'=>e = .returned (.string (joinS (endOf rs s).2))∧Below W.heap.size W w'):=fun W u hu=>rtext_any u _ W hu (by omega)
   unfold runT
   rw [if_pos hE,hE]
   rw [hE] at HC
   generalize joinS (endOf rs s).2=T at *
   clear hE hw hs hF hall hck hG hlen hl0
   have hf0:=fld0
   go_enter Tryz.func11,Tryz.ntmps11
   go_wp2_with fail
   refine (HC.out _ (by (repeat (first | exact Grown.refl _ | refine Grown.alloc ?_ _ | refine Grown.drew ?_)))).mono ?_
   rintro e w1 ⟨rfl,hB⟩
   have hk1:=(hB.block w.heap.size (by simp)).trans (heap_alloc_new w _)
   have c1:w1.cell? ⟨w.heap.size,0,none⟩=some (.slice ra n rc):=(cell_of hk1).trans rfl
   have HB:Hid (Below w.heap.size w w1):=((Grown.refl w).alloc _).below.trans (hB.mono (by simp))
   clear hB hk1
   go_wp2_with (first
    | (go_at_call 31;refine (HGo.out _ HB.out).mono ?_;rintro e w2 ⟨u1,u2,u3,s1,s2,s3,rfl,hI2,hb2⟩;have H2:=Hid.mk' (And.intro hI2 hb2);clear hI2 hb2)
    | (go_at_call 30;refine (HTx.out _ _ H2.out.1).mono ?_;rintro e w3 ⟨rfl,hb3⟩;have H3:=Hid.mk' hb3;clear hb3))
   go_ret2
   have hb2:Below w.heap.size w w2:=HB.out.trans (H2.out.2.mono HB.out.size)
   exact ⟨rfl,hb2.trans (H3.out.mono hb2.size)⟩
 · unfold runT
   rw [if_neg hE]
   obtain ⟨E,hE2⟩:∃ E,mayE rs s=E:=⟨_,rfl⟩
   rw [hE2] at hE HC ⊢
   have hE3:(E != 0)=true:=by simpa using hE
   clear hE2
   go_enter Tryz.func11,Tryz.ntmps11
   go_wp2_with (go_at_call 29;refine (HC.out _ (by (repeat (first | exact Grown.refl _ | refine Grown.alloc ?_ _ | refine Grown.drew ?_)))).mono ?_;rintro e w1 ⟨rfl,hB⟩;have HB:=Hid.mk' hB;clear hB)
   go_ret2
   exact ⟨rfl,((Grown.refl w).alloc _).below.trans (HB.out.mono (by simp))⟩
def RStQ (w:World) (rs:List Rl) (s:ByteArray) (e:Ending) (w':World):Prop:=∃ sv,e = .returned (.tuple #[sv,.int .i64 (mayE rs s)])∧OwnS w' w.heap.size sv (if mayE rs s=0 then (endOf rs s).1 else [])∧Below w.heap.size w w'
set_option maxHeartbeats 4000000 in
theorem rsteps_any (v:Value) (rs:List Rl) (s:ByteArray) (w:World) (h:PsR w v rs):Calls Tryz.prog 14 #[.agg #[v],.string s] w (RStQ w rs s):=by
 have HC:Hid (∀ W,Grown w W→Calls Tryz.prog 29 #[.agg #[v],.string s] W fun e w'=>e = .returned (.int .i64 (mayE rs s))∧Below W.heap.size W w'):=fun W hg=>rmay_any v rs s W (h.grown hg)
 have HP:=Hid.mk' h
 obtain ⟨ra,rc,hv,hx1,hx2⟩:=h
 subst hv
 obtain ⟨n,hn⟩:∃ n,rs.length=n:=⟨_,rfl⟩
 rw [hn] at HC HP ⊢
 clear hx1 hx2 hn
 unfold RStQ
 by_cases hE:mayE rs s=0
 · obtain ⟨st,hw,hs,hF,hall,hck,hG⟩:=may_ok hE
   have HGo:Hid (∀ W,Below w.heap.size w W→Calls Tryz.prog 31 #[.agg #[.slice ra n rc],.string s] W fun e w'=>∃ u1 u2 u3 s1 s2 s3,e = .returned (.agg #[.slice u1 u2 u3,.slice s1 s2 s3])∧OwnS w' W.heap.size (.slice s1 s2 s3) (endOf rs s).1∧Below W.heap.size W w'):=fun W hb=>(rgo_any _ rs st _ s W (HP.out.below hb (Nat.le_refl _)) hw (by omega)).mono (by
    rintro e w' ⟨uv,sv,d,xs,rfl,⟨u1,u2,u3,rfl⟩,⟨s1,s2,s3,rfl⟩,_,hO,_,_,_,h3,hb'⟩
    obtain ⟨rfl,_⟩:=h3.one hG
    exact ⟨u1,u2,u3,s1,s2,s3,rfl,hO,hb'⟩)
   rw [if_pos hE,hE]
   rw [hE] at HC
   generalize (endOf rs s).1=X at *
   clear hE hw hs hF hall hck hG
   have hf1:=fld1
   go_enter Tryz.func14,Tryz.ntmps14
   go_wp2_with fail
   refine (HC.out _ (by (repeat (first | exact Grown.refl _ | refine Grown.alloc ?_ _ | refine Grown.drew ?_)))).mono ?_
   rintro e w1 ⟨rfl,hB⟩
   have hk1:=(hB.block w.heap.size (by simp)).trans (heap_alloc_new w _)
   have c1:w1.cell? ⟨w.heap.size,0,none⟩=some (.slice ra n rc):=(cell_of hk1).trans rfl
   have HB:Hid (Below w.heap.size w w1):=((Grown.refl w).alloc _).below.trans (hB.mono (by simp))
   clear hB hk1
   go_wp2_with (go_at_call 31;refine (HGo.out _ HB.out).mono ?_;rintro e w2 ⟨u1,u2,u3,s1,s2,s3,rfl,hO2,hb2⟩;have H2:=Hid.mk' (And.intro hO2 hb2);clear hO2 hb2)
   go_ret2
   have hb2:Below w.heap.size w w2:=HB.out.trans (H2.out.2.mono HB.out.size)
   exact ⟨_,rfl,World.ownsRow.mono H2.out.1 HB.out.size,hb2⟩
 · rw [if_neg hE]
   obtain ⟨E,hE2⟩:∃ E,mayE rs s=E:=⟨_,rfl⟩
   rw [hE2] at hE HC ⊢
   have hE3:(E != 0)=true:=by simpa using hE
   clear hE2
   go_enter Tryz.func14,Tryz.ntmps14
   go_wp2_with (go_at_call 29;refine (HC.out _ (by (repeat (first | exact Grown.refl _ | refine Grown.alloc ?_ _ | refine Grown.drew ?_)))).mono ?_;rintro e w1 ⟨rfl,hB⟩;have HB:=Hid.mk' hB;clear hB)
   go_ret2
   exact ⟨_,rfl,OwnS.nil _ _,((Grown.refl w).alloc _).below.trans (HB.out.mono (by simp))⟩
theorem one_any (u:Int) (w:World):Calls Tryz.prog 43 #[.int .i64 u] w fun e w'=>e = .returned (.slice (some ⟨w.heap.size,0,none⟩) 1 1)∧w'=w.alloc (.cells #[.int .i64 u,.int .i64 u] 84):=by
 go_enter Tryz.func43,Tryz.ntmps43
 go_wp2
 go_ret
 exact ⟨rfl,rfl⟩
theorem piece_any (x:Int) (w:World):Calls Tryz.prog 44 #[.int .i64 x] w fun e w'=>e = .returned (.agg #[.int .i64 1,.int .i64 x,.int .i64 0,.slice none 0 0])∧w'=w.alloc (.cells #[.int .i64 1,.int .i64 x,.int .i64 0,.slice none 0 0] 65):=by
 go_enter Tryz.func44,Tryz.ntmps44
 go_wp2
 exact bodyPost_ret (v := .agg #[.int .i64 1,.int .i64 x,.int .i64 0,.slice none 0 0]) (by simp [results,Tryz.f44,go_sem]) rfl ⟨rfl,rfl⟩
def rsP:List Rl:=[⟨false,false,1,[],[[(97,97)]],[],[⟨1,120,0,[]⟩]⟩,⟨false,false,1,[],[[(97,97)],[(98,98)]],[],[⟨1,121,0,[]⟩]⟩]
theorem rsx_at {W:World} {g:Nat} {a:Int} (h:W.heap[g]? = some (.cells #[.int .i64 a,.int .i64 a] 84 (0,0))):Rs W (.slice (some ⟨g,0,none⟩) 1 1) [(a,a)]:=by
 refine ⟨_,1,rfl,Nat.le_refl _,.inr ⟨g,0,rfl,fun j hj => ?_⟩⟩
 obtain rfl:j=0:=by simp at hj;omega
 rw [cell_of h,cell_of h]
 exact ⟨rfl,rfl⟩
theorem prx_at {W:World} {g:Nat} {a:Int} (h:W.heap[g]? = some (.cells #[.int .i64 1,.int .i64 a,.int .i64 0,.slice none 0 0] 65 (0,0))):PR W (.slice (some ⟨g,0,none⟩) 1 1) [⟨1,a,0,[]⟩]:=by
 refine ⟨_,1,rfl,Nat.le_refl _,.inr ⟨g,0,rfl,fun j hj => ?_⟩⟩
 obtain rfl:j=0:=by simp at hj;omega
 exact ⟨.slice none 0 0,by rw [cell_of h];rfl,by rw [cell_of h];rfl,by rw [cell_of h];rfl,by rw [cell_of h];rfl,⟨none,0,rfl,Nat.le_refl _,.inl rfl⟩⟩
theorem alloc_at {W:World} {o:Obj} {k:Nat} (h:k=W.heap.size):(W.alloc o).heap[k]? = some o:=by subst h;exact heap_alloc_new _ _
theorem alloc_up {W:World} {o ob:Obj} {k:Nat} (h:W.heap[k]? = some ob):(W.alloc o).heap[k]? = some ob:=(((Grown.refl W).alloc o).below.block k (blk_lt h)).trans h
structure PLB (W:World) (n:Nat):Prop where
 b1:W.heap[n+1]? = some (.cells #[.int .i64 97,.int .i64 97] 84 (0,0))
 b2:W.heap[n+2]? = some (.cells #[.slice (some ⟨n+1,0,none⟩) 1 1] 60 (0,0))
 b4:W.heap[n+4]? = some (.cells #[.int .i64 1,.int .i64 120,.int .i64 0,.slice none 0 0] 65 (0,0))
 b5:W.heap[n+5]? = some (.cells #[.int .i64 97,.int .i64 97] 84 (0,0))
 b6:W.heap[n+6]? = some (.cells #[.int .i64 98,.int .i64 98] 84 (0,0))
 b7:W.heap[n+7]? = some (.cells #[.slice (some ⟨n+5,0,none⟩) 1 1,.slice (some ⟨n+6,0,none⟩) 1 1] 60 (0,0))
 b9:W.heap[n+9]? = some (.cells #[.int .i64 1,.int .i64 121,.int .i64 0,.slice none 0 0] 65 (0,0))
 b10:W.heap[n+10]? = some (.cells #[.bool false,.slice none 0 0,.slice (some ⟨n+2,0,none⟩) 1 1,.slice none 0 0,.bool false,.slice (some ⟨n+4,0,none⟩) 1 1,.int .i64 1,.bool false,.slice none 0 0,.slice (some ⟨n+7,0,none⟩) 2 2,.slice none 0 0,.bool false,.slice (some ⟨n+9,0,none⟩) 1 1,.int .i64 1] 53 (0,0))
theorem PLB.psr {W:World} {n:Nat} (h:PLB W n):PsR W (.slice (some ⟨n+10,0,none⟩) 2 2) rsP:=by
 refine ⟨_,2,rfl,Nat.le_refl _,.inr ⟨n+10,0,rfl,fun j hj => ?_⟩⟩
 have hj2:j=0∨j=1:=by simp [rsP] at hj;omega
 have h15:=h.b10
 have nl:SR W (.slice none 0 0) []:=⟨none,0,rfl,Nat.le_refl _,.inl rfl⟩
 rcases hj2 with rfl | rfl
 · refine ⟨_,_,_,_,by rw [cell_of h15];rfl,by rw [cell_of h15];rfl,by rw [cell_of h15];rfl,by rw [cell_of h15];rfl,by rw [cell_of h15];rfl,by rw [cell_of h15];rfl,by rw [cell_of h15];rfl,⟨nl,?_,nl,prx_at h.b4⟩⟩
   refine ⟨_,1,rfl,Nat.le_refl _,.inr ⟨n+2,0,rfl,fun j hj => ?_⟩⟩
   obtain rfl:j=0:=by simp [rsP] at hj;omega
   exact ⟨_,by rw [cell_of h.b2];rfl,rsx_at h.b1⟩
 · refine ⟨_,_,_,_,by rw [cell_of h15];rfl,by rw [cell_of h15];rfl,by rw [cell_of h15];rfl,by rw [cell_of h15];rfl,by rw [cell_of h15];rfl,by rw [cell_of h15];rfl,by rw [cell_of h15];rfl,⟨nl,?_,nl,prx_at h.b9⟩⟩
   refine ⟨_,2,rfl,Nat.le_refl _,.inr ⟨n+7,0,rfl,fun j hj => ?_⟩⟩
   have hj2:j=0∨j=1:=by simp [rsP] at hj;omega
   rcases hj2 with rfl | rfl
   · exact ⟨_,by rw [cell_of h.b7];rfl,rsx_at h.b5⟩
   · exact ⟨_,by rw [cell_of h.b7];rfl,rsx_at h.b6⟩
set_option maxHeartbeats 8000000 in
theorem plain_any (w:World):Calls Tryz.prog 22 #[] w fun e w'=>e = .returned (.agg #[.slice (some ⟨w.heap.size+10,0,none⟩) 2 2])∧PsR w' (.slice (some ⟨w.heap.size+10,0,none⟩) 2 2) rsP∧Grown w w':=by
 go_enter Tryz.func22,Tryz.ntmps22
 go_wp2_with (first | (go_at_call 43;refine (one_any _ _).mono ?_;rintro e w' ⟨rfl,rfl⟩) | (go_at_call 44;refine (piece_any _ _).mono ?_;rintro e w' ⟨rfl,rfl⟩))
 refine bodyPost_ret (v := .agg #[.slice (some ⟨w.heap.size+10,0,none⟩) 2 2]) (by simp [results,Tryz.f22,go_sem]) rfl ⟨rfl,PLB.psr ?_,?_⟩
 · constructor
   all_goals (repeat (first | (refine alloc_at ?_;simp;done) | refine alloc_up ?_))
 · repeat (first | exact Grown.refl _ | refine Grown.alloc ?_ _)
def tA:ByteArray:=⟨#[97,98,97,97,98]⟩
def tB:ByteArray:=⟨#[97,98]⟩
theorem may_A:mayE rsP tA=0:=by decide +kernel
theorem may_B:mayE rsP tB=0:=by decide +kernel
theorem run_A:runT rsP tA=⟨#[121,120,121]⟩:=by decide +kernel
theorem end_B:(endOf rsP tB).1.map (fun x=>(x.r,x.d,x.l,x.t,x.a,x.b))=[(1,0,2,2,1,0)]:=by decide +kernel
theorem end_B2:∃ df,endOf rsP tB=([⟨1,0,2,2,1,0⟩],df):=by
 have h:=end_B
 generalize endOf rsP tB=X at h
 obtain ⟨xs,df⟩:=X
 refine ⟨df,?_⟩
 rcases xs with _ | ⟨x,_ | ⟨y,l⟩⟩
 · cases h
 · simp only [List.map_cons,List.map_nil,List.cons.injEq,Prod.mk.injEq,and_true] at h
   obtain ⟨h1,h2,h3,h4,h5,h6⟩:=h
   cases x
   simp only at h1 h2 h3 h4 h5 h6
   subst h1 h2 h3 h4 h5 h6
   rfl
 · simp at h
theorem made_of {w W0:World} {rs:List Rl} {s:ByteArray} {b1 b2:Nat} {v:Value} (hT:Tab w) (hz:0<w.heap.size) (hb:Below w.heap.size w W0) (hE:mayE rs s=0) (h1:W0.heap[b1]? = some (.cells #[v] 22 (0,0))) (h2:W0.heap[b2]? = some (.cells #[.string s] 9 (0,0))) (hP:PsR W0 v rs):∃ st,Made W0 rs s b1 b2 v st:=by
 obtain ⟨st,hw,hs,hF,hall,hck,hG⟩:=may_ok hE
 exact ⟨st,⟨hT.below hb hz,Nat.lt_of_lt_of_le hz hb.size,hP,hF,hall,hck⟩,(cell_of h1).trans rfl,(cell_of h2).trans rfl,hs,hG⟩
theorem neq_stp (W:World) (a b c d e f:Int):(binOp .neq 47 (.agg #[.int .i64 a,.int .i64 b,.int .i64 c,.int .i64 d,.int .i64 e,.int .i64 f]) (.agg #[.int .i64 a,.int .i64 b,.int .i64 c,.int .i64 d,.int .i64 e,.int .i64 f])).run Tryz.prog W = .ok (.bool false) W:=by
 simp [go_sem]
set_option maxHeartbeats 8000000 in
theorem shown_any (w:World) (hT:Tab w) (hz:0<w.heap.size):Calls Tryz.prog 8 #[] w fun e w'=>e = .returned (.bool true)∧Below w.heap.size w w':=by
 have HPl:Hid (∀ W,Below w.heap.size w W→Calls Tryz.prog 22 #[] W fun e w'=>∃ g,e = .returned (.agg #[.slice (some ⟨g,0,none⟩) 2 2])∧PsR w' (.slice (some ⟨g,0,none⟩) 2 2) rsP∧Tab w'∧0<w'.heap.size∧Below W.heap.size W w'):=fun W hb=>(plain_any W).mono (by
  rintro e w' ⟨h1,h2,h3⟩
  have hb':=hb.trans (h3.below.mono hb.size)
  exact ⟨_,h1,h2,hT.below hb' hz,Nat.lt_of_lt_of_le hz hb'.size,h3.below⟩)
 have HRun:Hid (∀ W g,PsR W (.slice (some ⟨g,0,none⟩) 2 2) rsP→Tab W→0<W.heap.size→Calls Tryz.prog 10 #[.agg #[.slice (some ⟨g,0,none⟩) 2 2],.string ⟨#[97,98,97,97,98]⟩] W fun e w'=>e = .returned (.tuple #[.string ⟨#[121,120,121]⟩,.int .i64 0])∧Below W.heap.size W w'):=fun W g h1 h2 h3=>by
  have:=run_any _ rsP tA W h2 h3 h1
  rw [run_A,may_A] at this
  exact this
 have HSt:Hid (∀ W g,PsR W (.slice (some ⟨g,0,none⟩) 2 2) rsP→Tab W→Calls Tryz.prog 13 #[.agg #[.slice (some ⟨g,0,none⟩) 2 2],.string ⟨#[97,98]⟩] W fun e w'=>∃ b1 b2 v,e = .returned (.tuple #[.func (.func 35) #[] #[.pointer (some ⟨b1,0,none⟩),.pointer (some ⟨b2,0,none⟩)],.int .i64 0])∧w'.heap[b1]? = some (.cells #[v] 22 (0,0))∧w'.heap[b2]? = some (.cells #[.string tB] 9 (0,0))∧PsR w' v rsP∧Below W.heap.size W w'):=fun W g h1 h2=>(steps_any _ rsP tB W h2 h1).mono (by
  rintro e w' ⟨hb,⟨h3,_⟩ | ⟨_,b1,b2,v,rfl,_,_,h4,h5,h6⟩⟩
  · exact absurd may_B h3
  · exact ⟨b1,b2,v,rfl,h4,h5,h6.now,hb⟩)
 have HT:=Hid.mk' (And.intro hT hz)
 clear hT hz
 refine (callsIn_wide (n:=6)).1 ?_
 refine callsIn_of_wp_marks Tryz.func8 rfl trivial ?_ rfl
 simp only [Tryz.ntmps8,List.size_toArray,List.length_nil,Nat.reduceSub,Array.replicate_succ,Array.replicate_zero,List.push_toArray,List.append_toArray,List.nil_append,List.cons_append]
 have hg0:Grown w (w.alloc (.cells #[.bool false] 4)):=(Grown.refl _).alloc _
 have hr0:=heap_alloc_new w (.cells #[.bool false] 4)
 gi_wp2_with fail
 refine ⟨trivial,?_⟩
 gi_at_call 22
 refine (callsIn_wide.2 (HPl.out _ hg0.below)).mono ?_
 rintro e w1 ⟨g,rfl,hp1,hT1,hz1,hb1⟩
 have hR1:=(hb1.block _ (blk_lt hr0)).trans hr0
 have hB1:Below w.heap.size w w1:=hg0.below.trans (hb1.mono hg0.size)
 have HP1:=Hid.mk' (And.intro hp1 (And.intro hT1 hz1))
 clear hp1 hT1 hz1 hb1
 gi_wp2_with fail
 refine ⟨trivial,?_⟩
 gi_at_call 10
 refine (callsIn_wide.2 (HRun.out w1 g HP1.out.1 HP1.out.2.1 HP1.out.2.2)).mono ?_
 rintro e w2 ⟨rfl,hb2⟩
 have hR2:=(hb2.block _ (blk_lt hR1)).trans hR1
 have hB2:Below w.heap.size w w2:=hB1.trans (hb2.mono hB1.size)
 clear hb2 HP1 hR1 hB1
 gi_wp2_with fail
 refine ⟨trivial,?_⟩
 gi_at_call 22
 refine (callsIn_wide.2 (HPl.out _ hB2)).mono ?_
 rintro e w3 ⟨g',rfl,hp3,hT3,hz3,hb3⟩
 have hR3:=(hb3.block _ (blk_lt hR2)).trans hR2
 have hB3:Below w.heap.size w w3:=hB2.trans (hb3.mono hB2.size)
 have HP3:=Hid.mk' (And.intro hp3 hT3)
 clear hp3 hT3 hz3 hb3 hR2 hB2
 gi_wp2_with fail
 refine ⟨trivial,?_⟩
 gi_at_call 13
 refine (callsIn_wide.2 (HSt.out w3 g' HP3.out.1 HP3.out.2)).mono ?_
 rintro e w5 ⟨b1,b2,v,rfl,hx1,hx2,hP5,hb5⟩
 have hR5:=(hb5.block _ (blk_lt hR3)).trans hR3
 have hB5:Below w.heap.size w w5:=hB3.trans (hb5.mono hB3.size)
 obtain ⟨st,hM⟩:=made_of HT.out.1 HT.out.2 hB5 may_B hx1 hx2 hP5
 have HM:=Hid.mk' hM
 have HR5:=Hid.mk' hR5
 have HB5:=Hid.mk' hB5
 clear hx1 hx2 hP5 hb5 hR3 hB3 hM hR5 hB5 HP3
 have hnf:∀ W,(binOp .eql 40 (.func (.func 35) #[] #[.pointer (some ⟨b1,0,none⟩),.pointer (some ⟨b2,0,none⟩)]) .nilFunc).run Tryz.prog W = .ok (.bool false) W:=fun W=>by kernel_rfl
 gi_wp2
 obtain ⟨W6,hW6⟩:∃ W6,W6=w5.alloc (.cells #[.int .i64 0] 3):=⟨_,rfl⟩
 obtain ⟨nb,hnb⟩:∃ nb,nb=w5.heap.size:=⟨_,rfl⟩
 have hs6:W6.heap.size=nb+1:=by rw [hW6,hnb];simp
 have hbx6:W6.heap[nb]? = some (.cells #[.int .i64 0] 3 (0,0)):=by rw [hW6,hnb];exact heap_alloc_new _ _
 have hB6:Below nb w5 W6:=by rw [hW6,hnb];exact ((Grown.refl w5).alloc _).below
 rw [←hW6,←hnb]
 have HNB:=Hid.mk' hnb
 clear hW6 hnb
 obtain ⟨df,hend⟩:=end_B2
 have hxf:(endOf rsP tB).1=[⟨1,0,2,2,1,0⟩]:=by rw [hend]
 have hVs:∀ r:Loop,((W6.alloc (.deferred (some []))).alloc (.loop r)).heap.size=nb+1+2:=fun r=>by simp [hs6]
 refine wpIn_overR (enc:=encS) (by omega) (gf:=35) (pa:=#[]) (lb:=#[.pointer (some ⟨b1,0,none⟩),.pointer (some ⟨b2,0,none⟩)]) rfl (enters_of Tryz.func35 (by kernel_rfl) rfl) (xf:=[⟨1,0,2,2,1,0⟩]) (b:=nb) (h:=nb+1) (Z:=fun k=>nb+1+2≤k) (E:=fun _=>True) hs6.symm (by omega) (by omega) (by omega)
  (fun r=>by
   have:=steps1_seq (V:=(W6.alloc (.deferred (some []))).alloc (.loop r)) HM.out (by
    rw [←HNB.out]
    exact hB6.trans ((((Grown.refl W6).alloc _).alloc _).below.mono (by omega))) 5 (nb+1+1) (by omega)
   rw [hxf,hVs r,←HNB.out] at this
   exact this)
  (fun _ _ _=>trivial) (fun _=>rfl)
  (fun pre W=>Below nb w5 W∧W.heap[nb]? = some (.cells #[.int .i64 pre.length] 3 (0,0))) (fun _ _ _=>False)
  (fun pre X Y hX hf=>⟨hX.1.trans (hf.below (fun k hk=>by omega) (by have:=hX.1.size;have:=HNB.out;omega)),(hf.block _ (blk_lt hX.2) (by omega)).trans hX.2⟩)
  (fun _ _ _ _ hX _=>hX) ⟨hB6,hbx6⟩ ?round ?done ?stop
 case round=>
  intro l pre x W hpre hW
  obtain ⟨rfl,rfl⟩:pre=[]∧x=⟨1,0,2,2,1,0⟩:=by
   obtain ⟨t,ht⟩:=hpre
   cases pre with
   | nil=>simp at ht;exact ⟨rfl,ht.1⟩
   | cons y l=>simp at ht
  rw [show (#[32]:Array Tmp).zip (encS ⟨1,0,2,2,1,0⟩)=#[(32,Value.agg (fs1 ⟨1,0,2,2,1,0⟩).toArray)] from zip1 _ _]
  unfold fs1
  gi_wp2
  refine ⟨(Grown.refl _).alloc _,?_⟩
  rintro X ⟨hI1,hbx⟩ hXs hXk
  have hcx:X.heap[W.heap.size]? = some (.cells #[.int .i64 1,.int .i64 0,.int .i64 2,.int .i64 2,.int .i64 1,.int .i64 0] 47 (0,0)):=by rw [hXk _ (by omega)];exact heap_alloc_new W _
  have k0:X.cell? ⟨W.heap.size,0,none⟩=some (.int .i64 1):=by rw [cell_of hcx];rfl
  have k1:X.cell? ⟨W.heap.size,1,none⟩=some (.int .i64 0):=by rw [cell_of hcx];rfl
  have k2:X.cell? ⟨W.heap.size,2,none⟩=some (.int .i64 2):=by rw [cell_of hcx];rfl
  have k3:X.cell? ⟨W.heap.size,3,none⟩=some (.int .i64 2):=by rw [cell_of hcx];rfl
  have k4:X.cell? ⟨W.heap.size,4,none⟩=some (.int .i64 1):=by rw [cell_of hcx];rfl
  have k5:X.cell? ⟨W.heap.size,5,none⟩=some (.int .i64 0):=by rw [cell_of hcx];rfl
  have cn:X.cell? ⟨nb,0,none⟩=some (.int .i64 0):=by rw [cell_of hbx];rfl
  have fn:X.frozen? ⟨nb,0,none⟩=false:=free_of hbx
  have HX:=Hid.mk' (And.intro hI1 hbx)
  clear hI1 hbx hXs hXk hcx
  gi_wp2
  refine ⟨⟨Below.setCell (p:=⟨nb,0,none⟩) (Below.refl nb X) (Nat.le_refl _) _,fun k o hk ho => ?_⟩,Below.setCell (p:=⟨nb,0,none⟩) HX.out.1 (Nat.le_refl _) _,?_⟩
  · exact (Below.heap_setCell X ⟨nb,0,none⟩ _ k (by simp only;omega)).trans ho
  · rw [set_heap HX.out.2];rfl
 case done=>
  rintro D W hD ⟨hI,hbx⟩ _ hK
  have cn:W.cell? ⟨nb,0,none⟩=some (.int .i64 1):=by rw [cell_of hbx];rfl
  have hlt:=blk_lt HR5.out
  have hR:W.heap[w.heap.size]? = some (.cells #[.bool false] 4 (0,0)):=(hI.block _ (by have:=HNB.out;omega)).trans HR5.out
  have cr:W.cell? ⟨w.heap.size,0,none⟩=some (.bool false):=by rw [cell_of hR];rfl
  have fr:W.frozen? ⟨w.heap.size,0,none⟩=false:=free_of hR
  have HW:=Hid.mk' (And.intro hI (And.intro hR hK))
  clear hI hbx hR hK
  gi_wp2
  have hK2:(W.setCell ⟨w.heap.size,0,none⟩ (.bool true)).heap[D]? = some (.deferred (some [])):=(Below.heap_setCell W ⟨w.heap.size,0,none⟩ _ D (by simp only;have:=HNB.out;omega)).trans HW.out.2.2
  refine ⟨by simp,.inl ⟨_,_,rfl,run_takeDeferred hK2,?_⟩⟩
  have hR3:((W.setCell ⟨w.heap.size,0,none⟩ (.bool true)).putObj D (.deferred none)).heap[w.heap.size]? = some (.cells #[.bool true] 4 (0,0)):=(World.putObj_heap_other (by have:=HNB.out;omega)).trans ((set_heap HW.out.2.1).trans rfl)
  have c0:((W.setCell ⟨w.heap.size,0,none⟩ (.bool true)).putObj D (.deferred none)).cell? ⟨w.heap.size,0,none⟩=some (.bool true):=(cell_of hR3).trans rfl
  refine ⟨.bool true,?_,rfl,?_⟩
  · have hr:Tryz.f8.results=#[.cell 0 4]:=rfl
    simp only [results,hr]
    simp [go_sem,c0]
  · have hb:Below w.heap.size w W:=HB5.out.trans (HW.out.1.mono (by have:=HNB.out;have:=HB5.out.size;omega))
    have hb2:Below w.heap.size w (W.setCell ⟨w.heap.size,0,none⟩ (.bool true)):=Below.setCell (p:=⟨w.heap.size,0,none⟩) hb (Nat.le_refl _) _
    exact hb2.trans (belowK_b (w:=w) (Nat.le_refl _) _ D _ _ (by have:=HNB.out;have:=HB5.out.size;omega) hK2 rfl rfl)
 case stop=>
  rintro D c pre W _ _ h _
  exact h.elim
def SAt (W:World) (g:Nat) (l:List Stp):Prop:=∀ i (hi:i<l.length),W.cell? ⟨g,i*6,none⟩=some (.int .i64 l[i].r)∧W.cell? ⟨g,i*6+1,none⟩=some (.int .i64 l[i].d)∧W.cell? ⟨g,i*6+2,none⟩=some (.int .i64 l[i].l)∧W.cell? ⟨g,i*6+3,none⟩=some (.int .i64 l[i].t)∧W.cell? ⟨g,i*6+4,none⟩=some (.int .i64 l[i].a)∧W.cell? ⟨g,i*6+5,none⟩=some (.int .i64 l[i].b)
theorem fs_get:∀ (l:List Stp) (i:Nat) (hi:i<l.length) (j:Nat),j<6→(fs l)[i*6+j]? = (fs1 l[i])[j]?
 | [],i,hi,_,_=>by simp at hi
 | x::l,0,_,j,hj=>by
  show (fs1 x++fs l)[0*6+j]? = _
  rw [List.getElem?_append_left (by simp [fs1];omega)]
  simp
 | x::l,i+1,hi,j,hj=>by
  show (fs1 x++fs l)[(i+1)*6+j]? = _
  have e:(fs1 x).length=6:=rfl
  rw [List.getElem?_append_right (by rw [e];omega),e,show (i+1)*6+j - 6=i*6+j by omega,fs_get l i (by simpa using hi) j hj]
  simp
theorem OwnS.at' {w:World} {base:Nat} {v:Value} {l:List Stp} (h:OwnS w base v l) (h0:0<l.length):∃ g c,v = .slice (some ⟨g,0,none⟩) l.length c∧base≤g∧g<w.heap.size∧∀ W,(∀ b,b=g→W.heap[b]? = w.heap[b]?)→SAt W g l:=by
 obtain ⟨g,cap,hv,_⟩:=own_form h h0
 subst hv
 have hlt:=World.ownsRow.lt h g rfl
 refine ⟨g,cap,rfl,hlt.1,hlt.2,fun W hW i hi => ?_⟩
 have hc:∀ j,j<6→W.cell? ⟨g,i*6+j,none⟩=(fs1 l[i])[j]? := fun j hj=>by
  have h2:=World.ownsRow.cellAt h (i*6+j) (by omega)
  rw [fs_get l i hi j hj] at h2
  rw [←h2]
  simp only [World.cell?,hW g rfl]
 exact ⟨hc 0 (by omega),hc 1 (by omega),hc 2 (by omega),hc 3 (by omega),hc 4 (by omega),hc 5 (by omega)⟩
theorem neq_stp2 (W:World) (a b c d e f:Int):(binOp .neq 47 (.agg #[.int .i64 a,.int .i64 b,.int .i64 c,.int .i64 d,.int .i64 e,.int .i64 f]) (.agg #[.int .i64 a,.int .i64 b,.int .i64 c,.int .i64 d,.int .i64 e,.int .i64 f])).run Tryz.prog W = .ok (.bool false) W:=neq_stp W a b c d e f
theorem kall_of {X Y:World} {B nb h:Nat} (hf:Fr X Y (fun k=>k=nb)) (h1:B≤nb) (h2:nb<h) (h3:B≤X.heap.size):KAll (fun k=>h+2≤k∨h≤k) B X Y:=
 ⟨hf.below (fun k hk=>by have hk:k=nb:=hk;omega) h3,fun k o hk ho=>(hf.block k (blk_lt ho) (fun e=>by have e:k=nb:=e;omega)).trans ho⟩
theorem kall_of1 {X Y:World} {B nb h:Nat} (hf:Fr X Y (fun k=>k=nb)) (h1:B≤nb) (h2:nb<h) (h3:B≤X.heap.size):KAll (fun k=>h+1≤k∨h≤k) B X Y:=
 ⟨hf.below (fun k hk=>by have hk:k=nb:=hk;omega) h3,fun k o hk ho=>(hf.block k (blk_lt ho) (fun e=>by have e:k=nb:=e;omega)).trans ho⟩
theorem fr_cell {X:World} {nb:Nat} {u:Value} : Fr X (X.setCell ⟨nb,0,none⟩ u) (fun k=>k=nb):=⟨rfl,rfl,rfl,by simp,fun k _ hn=>Below.heap_setCell X ⟨nb,0,none⟩ _ k hn⟩
theorem pre_at {xs pre:List Stp} {x:Stp} (h:pre++[x] <+: xs):∃ hk:pre.length<xs.length,xs[pre.length]=x:=by
 obtain ⟨t,ht⟩:=h
 have hk:pre.length<xs.length:=by rw [←ht];simp
 refine ⟨hk,?_⟩
 subst ht
 simp
def plainB (o:Oper):Bool:=match o.op with
 | .move _ | .assign _ | .pick .. | .load .. | .fieldAddr .. | .indexAddr .. | .binOp .. | .unOp .. => true
 | .call c=>(match c.callee with | .builtin .len=>true | _=>false)
 | _=>false
theorem and_no {α:Type} {r:Result α} {g:α→Value} {w':World} {f:FuncId} {args:Array Value} : (r.andThen fun a w'=>Result.ok (Next.value (g a)) w') ≠ .ok (.enter f args) w':=by
 cases r <;> simp [Result.andThen]
theorem plain_defer {o:Oper} (h:plainB o=true):∀ c,o.op ≠ .defer c:=fun c e=>by
 simp [plainB,e] at h
theorem plain_about {P:Program} {o:Oper} (h:plainB o=true) (w:World) (ρ:Operand→Value):o.about P w ρ=none:=by
 unfold Oper.about
 unfold plainB at h
 split
 · rename_i c hc
   rw [hc] at h
   simp only at h
   split at h
   · rename_i hb
     simp [resolve,hb,Target.leads]
   · cases h
 · rfl
theorem plain_enter {P:Program} {o:Oper} (h:plainB o=true) (w w':World) (ρ:Operand→Value) (f:FuncId) (args:Array Value):(execOp ρ o).run P w ≠ .ok (.enter f args) w':=by
 unfold plainB at h
 unfold execOp
 cases ho:o.op <;> rw [ho] at h <;> first | (cases h;done) | skip
 case call c=>
  simp only at h
  split at h
  · rename_i hb
    simp only [resolve,hb,Sem.run_bind,Sem.run_pure,Result.andThen_ok,invoke,builtin]
    exact and_no (g:=id)
  · cases h
 all_goals simp only [Sem.run_bind,Sem.run_pure]
 all_goals first | exact and_no | exact and_no (g:=id) | simp
theorem wpIn_of_quiet {F:Fence} {n:Nat} {P:Program} {C:World→Prop} {o:Oper} (hp:plainB o=true) {a:Act} {K:Act→Prop} {K':Act→World→Prop} {Q':Exit→Act→World→Prop} {w:World} (hw:C w) (h:∀ a w',C w'→K a→K' a w') (hh:o.quiet P a C K):o.wpIn F n P a w K' Q':=by
 obtain ⟨v,h1,h2⟩:=hh
 have h3:=h1 w hw
 have hne:=plain_enter (P:=P) hp w
 unfold Oper.quietAt at h3
 refine ⟨fun f hf=>(by rw [plain_about hp] at hf;cases hf),?_⟩
 have e:o.semAt F.round a.eval=execOp a.eval o:=by
  cases F.round with
  | none=>rfl
  | some l=>exact Oper.semAt_some l _ _ (plain_defer hp)
 rw [e]
 have hne2:=fun w' f args=>hne w' a.eval f args
 generalize (execOp a.eval o).run P w=r at *
 cases r with
 | ok n w'=>
  cases n <;> simp only [Oper.quietUpon] at h3 <;> simp only [Oper.uponIn]
  case value u=>
   obtain ⟨e1,e2⟩:=h3
   rw [e1,e2]
   exact h _ _ hw h2
  case skip=>
   obtain ⟨e1,e2⟩:=h3
   rw [e1,←e2]
   exact h _ _ hw h2
  case enter f args=>exact absurd rfl (hne2 w' f args)
 | halt x w'=>simp only [Oper.quietUpon] at h3
theorem wpOpIn_of_qOp {F:Fence} {n:Nat} {P:Program} {ops:Array Oper} {C:World→Prop} (hp:∀ (i:Nat) (o:Oper),ops[i]? = some o→plainB o=true) {i:Nat} {a:Act} {K:Act→Prop} {K':Act→World→Prop} {Q':Exit→Act→World→Prop} {w:World} (hC:C w) (h:∀ a w',C w'→K a→K' a w') (hh:qOp P ops C i K a):wpOpIn F n P ops Q' i K' a w:=by
 unfold qOp at hh
 unfold wpOpIn
 split
 · rename_i ho;simp only [ho] at hh;exact h _ _ hC hh
 · rename_i o ho
   simp only [ho] at hh
   split
   · rename_i hw;simp only [hw,if_true] at hh;exact wpIn_of_quiet (hp i o ho) hC h hh
   · rename_i hw;simp only [hw] at hh;exact ⟨fun f hf=>(by rw [plain_about (hp i o ho)] at hf;cases hf),h _ _ hC hh⟩
theorem wpAnyIn_of_q {F:Fence} {n:Nat} {P:Program} {md:Region.Mode} {ops:Array Oper} {C:World→Prop} (hp:∀ (i:Nat) (o:Oper),ops[i]? = some o→plainB o=true) {Q:Act→Prop} {Q':Exit→Act→World→Prop} (hQ:∀ a w,C w→Q a→Q' .normal a w):∀ (fuel:Nat) (listed:Array Bool) (a:Act) (w:World),C w →
 wpAnyQ P md ops C Q fuel listed a→wpAnyIn F n P md ops Q' fuel listed a w
 | 0,_,_,_,hw,h=>⟨h.1,hQ _ _ hw h.2⟩
 | fuel+1,_,_,_,hw,h=>⟨fun h0=>hQ _ _ hw (h.1 h0),fun i hi=>wpOpIn_of_qOp hp hw (fun a' w' hw'=>wpAnyIn_of_q hp hQ fuel _ a' w' hw') (h.2 i hi)⟩
theorem wpIn_region_plain {F:Fence} {n:Nat} {P:Program} {id:Nat} {Q:Exit→Act→World→Prop} {a:Act} {w:World} {l:List Oper} (hm:P.follows .mixedOrders=true) (hB:Region.lexB .any l.toArray=true) (hp:l.all plainB=true)
 (h:wpQuiet P l.toArray (fun w'=>∃ p:GrownBy,w'=Go.Sort.grow (w.drewN p.n) p.os) (fun a'=>∀ w',(∃ p:GrownBy,w'=Go.Sort.grow (w.drewN p.n) p.os)→Q .normal a' w') l a):(Code.region id l.toArray true).wpIn F n P Q a w:=by
 simp only [Region.lexB,Bool.and_eq_true] at hB
 refine wpIn_region_any hm (wpAnyIn_of_q (C:=fun w'=>∃ p:GrownBy,w'=Go.Sort.grow (w.drewN p.n) p.os) (fun i o ho=>List.all_eq_true.1 hp o (List.mem_of_getElem? (by simpa using ho))) (Q:=fun a'=>∀ w',(∃ p:GrownBy,w'=Go.Sort.grow (w.drewN p.n) p.os)→Q .normal a' w') (fun _ w' hw' h=>h w' hw') _ _ _ _ ⟨⟨1,#[]⟩,by rw [Go.Sort.grow_empty];rfl⟩ ?_)
 have:=wpAnyQ_lex (C:=fun w'=>∃ p:GrownBy,w'=Go.Sort.grow (w.drewN p.n) p.os) (md := .any) hB.1 l 0 (Array.replicate l.toArray.size false) a (by simp) (by simpa using hB.2) (by simpa using h)
 simpa using this
end Go.Proofs
