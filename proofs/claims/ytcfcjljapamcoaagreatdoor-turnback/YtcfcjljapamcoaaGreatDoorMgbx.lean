/-
  Several texts in one (Gb Gc Eh Ee Ef Ek Ga Ei).
-/
import Derived.RangeFuncNested
import Derived.RangeFuncBound
import Derived.RangeFuncCalls
import Derived.RangeFuncLeaves
import Derived.Shelf.Abstract
import Derived.Shelf.RegionOpen
import Derived.WalkKit
import Derived.WalkSpells
import Derived.WalkLawsBesides
import Derived.OwnWalkIn
import Derived.TacticsInMore
import Derived.LoopNIn
import Derived.LoopIn
import Derived.BigQuiet
import Derived.RegionIn
import Derived.Deep.QuietTactic
import Derived.Deep.RegionWith
import Derived.Lib.OthersKept
import Derived.Maps.AppendAt
import Derived.Lib.SmallJoins
import Derived.Shelf.SlSortCmp.QuietGrown
import Derived.Test.YtcfcjljapamcoaaGreatDoorMpdx
import Derived.Test.YtcfcjljapamcoaaGreatDoorMgax
import Derived.Deep.AppendLies
namespace Go.Proofs
open Go.RowKit Go.Shelf
set_option maxRecDepth 100000
attribute [local go_sem] Oper.semAt_some
attribute [local go_sem ↓] Go.wp_at_zero Go.wp_at_succ
def bAt (l:List Int) (i:Nat):Int:=l[i]?.getD 0
def plcF (l:List Int) (u:Int):Nat→Nat→Nat→Nat
 | 0,lo,_=>lo
 | f+1,lo,hi=>if 1<hi - lo then (if bAt l ((lo+hi) / 2)≤u then plcF l u f ((lo+hi) / 2) hi else plcF l u f lo ((lo+hi) / 2)) else lo
def plc (l:List Int) (u:Int):Nat:=plcF l u l.length 0 l.length
theorem plcF_spec (l:List Int) (u:Int):∀ (f lo hi:Nat),hi - lo≤f+1→lo<hi→hi≤l.length→bAt l lo≤u→(hi=l.length∨u<bAt l hi)→plcF l u f lo hi<l.length∧bAt l (plcF l u f lo hi)≤u∧(plcF l u f lo hi+1=l.length∨u<bAt l (plcF l u f lo hi+1))
 | 0,lo,hi,h1,h2,h3,h4,h5=>by
  have:hi=lo+1:=by omega
  subst this
  exact ⟨by simp [plcF];omega,h4,h5⟩
 | f+1,lo,hi,h1,h2,h3,h4,h5=>by
  unfold plcF
  by_cases hc:1<hi - lo
  · rw [if_pos hc]
    by_cases hm:bAt l ((lo+hi) / 2)≤u
    · rw [if_pos hm]
      exact plcF_spec l u f _ _ (by omega) (by omega) h3 hm h5
    · rw [if_neg hm]
      exact plcF_spec l u f _ _ (by omega) (by omega) (by omega) h4 (.inr (by omega))
  · rw [if_neg hc]
    have:hi=lo+1:=by omega
    subst this
    exact ⟨by omega,h4,h5⟩
set_option maxHeartbeats 2000000 in
theorem place_any (v:Value) (l:List Int) (u:Int) (w:World) (h:IR w v l) (hn:l.length≤4611686018427387903):Calls Tryz.prog 88 #[v,.int .i64 u] w fun e w'=>e = .returned (.int .i64 (plc l u))∧w'=w:=by
 obtain ⟨a,c,rfl,_,hr⟩:=h
 have HR:Hid (l=[]∨∃ g o,a=some ⟨g,o,none⟩∧IRd w g o l):=hr
 obtain ⟨N,hN⟩:∃ N,l.length=N:=⟨_,rfl⟩
 have HN:Hid (l.length=N):=hN
 obtain ⟨R,hRR⟩:∃ R,plc l u=R:=⟨_,rfl⟩
 have HRR:Hid (plcF l u N 0 N=R):=by show _=R;rw [←hRR,plc,hN]
 rw [hN] at hn ⊢
 rw [hRR]
 have hNI:(N:Int)≤4611686018427387903:=by omega
 clear hN hr hRR
 go_enter Tryz.func88,Tryz.ntmps88
 go_wp2
 go_loopw [5,6] (fun vl vh wr=>∃ lo hi f:Nat,vl = .int .i64 lo∧vh = .int .i64 hi∧lo≤hi∧hi≤N∧Hid (plcF l u f lo hi=R∧hi - lo≤f)∧wr=w) (fun vl vh _=>(intOf vh).toNat - (intOf vl).toNat)
 case atStart=>exact ⟨0,N,N,rfl,rfl,by omega,by omega,⟨HRR.out,by omega⟩,rfl⟩
 case round=>
  obtain ⟨lo,hi,f,rfl,rfl,hlh,hhN,HF,hwr⟩:=hrel
  obtain rfl:=hwr.symm
  have hlo0:(0:Int)≤(lo:Int):=by omega
  have hhi:(hi:Int)≤(N:Int):=by omega
  have hlhI:(lo:Int)≤(hi:Int):=by omega
  by_cases hc:1<hi - lo
  · have hcI:(1:Int)<(hi:Int) - (lo:Int):=by omega
    have hcd:decide ((1:Int)<(hi:Int) - (lo:Int))=true:=by simpa using hcI
    obtain ⟨f',rfl⟩:∃ f',f=f'+1:=⟨f - 1,by have:=HF.out.2;omega⟩
    have hp:=HF.out.1
    rw [plcF,if_pos hc] at hp
    obtain ⟨m,hm⟩:∃ m,(lo+hi) / 2=m:=⟨_,rfl⟩
    rw [hm] at hp
    have hmI:((lo:Int)+(hi:Int)).tdiv 2=(m:Int):=by rw [Int.tdiv_eq_ediv_of_nonneg (by omega)];omega
    have hml:m<l.length:=by rw [HN.out];omega
    have hmN:(m:Int)<(N:Int):=by have:=HN.out;omega
    have hm0:(0:Int)≤(m:Int):=by omega
    obtain ⟨g,o,rfl,hd⟩:=HR.out.resolve_left (fun e=>by rw [e] at hml;simp at hml)
    have cm:=hd m hml
    have hbm:bAt l m=l[m]:=by simp [bAt,hml]
    rw [hbm] at hp
    generalize l[m]=x at cm hp
    have HL:Hid (lo<m∧m<hi∧hi - lo≤f'+1):=⟨by omega,by omega,HF.out.2⟩
    clear hd hbm hm HF
    by_cases hx:x≤u
    · as_aux_lemma=>
       have HP:Hid (plcF l u f' m hi=R):=by rw [if_pos hx] at hp;exact hp
       clear hp
       have hL:=HL.out
       go_wp2
       exact ⟨⟨m,hi,f',rfl,rfl,by omega,by omega,⟨HP.out,by omega⟩,by first | rfl | trivial⟩,by simp [intOf];omega⟩
    · as_aux_lemma=>
       have HP:Hid (plcF l u f' lo m=R):=by rw [if_neg hx] at hp;exact hp
       clear hp
       have hL:=HL.out
       go_wp2
       exact ⟨⟨lo,m,f',rfl,rfl,by omega,by omega,⟨HP.out,by omega⟩,by first | rfl | trivial⟩,by simp [intOf];omega⟩
  · as_aux_lemma=>
     have hcn:¬ (1:Int)<(hi:Int) - (lo:Int):=by omega
     have hcd:decide ((1:Int)<(hi:Int) - (lo:Int))=false:=by simp;omega
     have HP:Hid (lo=R):=by
      have:=HF.out.1
      cases f with
      | zero=>rw [plcF] at this;exact this
      | succ f=>rw [plcF,if_neg hc] at this;exact this
     clear HF
     go_wp2
     go_ret
     exact ⟨by rw [HP.out];rfl,rfl⟩
def grK (L W:List Int) (hi:Int):Nat→Nat→Int→Int
 | 0,_,n=>n
 | f+1,k,n=>if k<L.length∧bAt L k≤hi then grK L W hi f (k+1) (if n<bAt W k then bAt W k else n) else n
def gr1 (L W:List Int) (n:Int) (x:Int × Int):Int:=grK L W x.2 L.length (plc L x.1) n
def grt (L W:List Int) (s:List (Int × Int)):Int:=s.foldl (gr1 L W) 0
theorem grt_succ (L W:List Int) (s:List (Int × Int)) {k:Nat} (h:k<s.length):(s.take (k+1)).foldl (gr1 L W) 0=gr1 L W ((s.take k).foldl (gr1 L W) 0) (rg s k):=by
 rw [List.take_add_one,List.foldl_append,List.getElem?_eq_getElem h,rg_lt h]
 rfl
theorem ir_cell {w:World} {a:Option Addr} {n c:Nat} {l:List Int} (h:IR w (.slice a n c) l) {j:Nat} (hj:j<l.length):∃ g o,a=some ⟨g,o,none⟩∧w.cell? ⟨g,o+j,none⟩=some (.int .i64 (bAt l j)):=by
 obtain ⟨a',c',e,_,hr⟩:=h
 obtain ⟨g,o,ha,hd⟩:=hr.resolve_left (fun e=>by rw [e] at hj;simp at hj)
 injection e with e1
 refine ⟨g,o,e1.trans ha,?_⟩
 have:=hd j hj
 rw [this]
 simp [bAt,hj]
set_option maxHeartbeats 4000000 in
theorem greatest_any (lv wv sv:Value) (L W:List Int) (s:List (Int × Int)) (w:World) (hL:IR w lv L) (hW:IR w wv W) (hl:W.length=L.length) (hS:Rs w sv s) (hn:L.length≤4611686018427387903) (hs:s.length≤4611686018427387903) :
 Calls Tryz.prog 115 #[.agg #[lv,wv],sv] w fun e w'=>e = .returned (.int .i64 (grt L W s))∧Grown w w':=by
 have HPl:Hid (∀ (V:World) (u:Int),Grown w V→Calls Tryz.prog 88 #[lv,.int .i64 u] V fun e w'=>e = .returned (.int .i64 (plc L u))∧Grown V w'):=fun V u hg=>(place_any lv L u V (hL.grown hg) hn).mono fun _ _ ⟨h1,h2⟩=>⟨h1,by rw [h2];exact Grown.refl _⟩
 have HL:Hid (∀ V,Grown w V→IR V lv L):=fun V hg=>hL.grown hg
 have HW:Hid (∀ V,Grown w V→IR V wv W):=fun V hg=>hW.grown hg
 have HS:Hid (∀ V,Grown w V→Rs V sv s):=fun V hg=>hS.grown hg
 obtain ⟨la,ln,lc,rfl⟩:=hL.sl
 obtain ⟨wa,wn,wc,rfl⟩:=hW.sl
 obtain ⟨sa,sc,hsv,_,_⟩:=hS
 subst hsv
 have hln:ln=L.length:=by obtain ⟨_,_,e,_⟩:=hL;injection e
 have hwn:wn=L.length:=by obtain ⟨_,_,e,_⟩:=hW;injection e with _ e2;omega
 obtain ⟨N,hN⟩:∃ N,L.length=N:=⟨_,rfl⟩
 obtain ⟨m,hm⟩:∃ m,s.length=m:=⟨_,rfl⟩
 have HN:Hid (L.length=N∧W.length=N∧s.length=m):=⟨hN,by omega,hm⟩
 rw [hN] at hln hwn hn
 obtain rfl:=hln.symm
 obtain rfl:=hwn.symm
 rw [hm] at hs HS ⊢
 have hNI:(N:Int)≤4611686018427387903:=by omega
 have hmI:(m:Int)≤4611686018427387903:=by omega
 obtain ⟨R,hR⟩:∃ R,grt L W s=R:=⟨_,rfl⟩
 have HR:Hid (grt L W s=R):=hR
 rw [hR]
 clear hR hL hW hN hm hl
 obtain ⟨W0,hW0⟩:∃ W0,W0=w.alloc (.cells #[.slice la N lc,.slice wa N wc] 89):=⟨_,rfl⟩
 have HG0:Hid (Grown w W0):=by show Grown _ _;rw [hW0];exact (Grown.refl _).alloc _
 have d0:W0.cell? ⟨w.heap.size,0,none⟩=some (.slice la N lc):=by rw [hW0];simp
 have d1:W0.cell? ⟨w.heap.size,1,none⟩=some (.slice wa N wc):=by rw [hW0];simp
 go_enter Tryz.func115,Tryz.ntmps115
 go_wp2
 rw [←hW0]
 clear hW0
 go_loopw [5,6] (fun vn vi wr=>∃ (i:Nat) (x:Int),vi = .int .i64 i∧vn = .int .i64 x∧i≤m∧Hid (x=(s.take i).foldl (gr1 L W) 0)∧Grown W0 wr) (fun _ vi _=>m - (intOf vi).toNat)
 case atStart=>exact ⟨0,0,rfl,rfl,by omega,by show _=_;simp,Grown.refl _⟩
 case round=>
  obtain ⟨i,x,rfl,rfl,hi,HX,hG⟩:=hrel
  have hi0:(0:Int)≤(i:Int):=by omega
  by_cases hlt:i<m
  · have hlt':(i:Int)<(m:Int):=by omega
    have his:i<s.length:=by rw [HN.out.2.2];exact hlt
    have hGw:Grown w wr:=HG0.out.trans hG
    obtain ⟨a',c',e',_,hrr⟩:=HS.out wr hGw
    obtain ⟨sg,so,ha',hrd⟩:=hrr.resolve_left (fun e=>by rw [e] at his;simp at his)
    injection e' with e1 e2 e3
    clear e2 e3
    rw [ha'] at e1
    subst e1
    obtain ⟨q1,q2⟩:=hrd i his
    have HSX:=grt_succ L W s his
    rw [←HX.out] at HSX
    obtain ⟨lo,hlo⟩:∃ lo,(rg s i).1=lo:=⟨_,rfl⟩
    obtain ⟨hi',hhi⟩:∃ hi',(rg s i).2=hi':=⟨_,rfl⟩
    rw [hlo] at q1
    rw [hhi] at q2
    have HK:Hid (grK L W hi' N (plc L lo) x=(s.take (i+1)).foldl (gr1 L W) 0):=by show _=_;rw [HSX,gr1,hlo,hhi,HN.out.1]
    have c0:=hG.cellv d0
    have k0:=fun m os=>((Grown.refl wr).quiet m os).cellv c0
    have k1:=fun m os=>((Grown.refl wr).quiet m os).cellv q1
    have HC:Hid (∀ m os,Calls Tryz.prog 88 #[.slice la N lc,.int .i64 lo] (Go.Sort.grow (wr.drewN m) os) fun e w'=>e = .returned (.int .i64 (plc L lo))∧Grown (Go.Sort.grow (wr.drewN m) os) w'):=fun m os=>HPl.out _ lo (hGw.quiet m os)
    have HGW:Hid (∀ m os,Grown W0 (Go.Sort.grow (wr.drewN m) os)):=fun m os=>hG.quiet m os
    have q2':=fun m os=>((Grown.refl wr).quiet m os).cellv q2
    obtain ⟨p,hp⟩:∃ p,plc L lo=p:=⟨_,rfl⟩
    rw [hp] at HK HC
    clear hrr hrd HSX hlo hhi hp HX hG ha'
    go_wp2
    refine wp_region_quiet_grown mixed (by kernel_rfl) ?_
    repeat (go_big_quiet_step ((go_at_call 88;exact grown_of (HC.out _ _))))
    refine wpQuiet_nil ?_
    intro _ hw'
    obtain ⟨⟨nq,osq⟩,hw''⟩:=hw'
    subst hw''
    obtain ⟨W2,hW2⟩:∃ W2,W2=Go.Sort.grow (wr.drewN nq) osq:=⟨_,rfl⟩
    have HG2:Hid (Grown W0 W2):=by rw [hW2];exact HGW.out _ _
    have q22:W2.cell? ⟨sg,so+i*2+1,none⟩=some (.int .i64 hi'):=by rw [hW2];exact q2' _ _
    rw [←hW2]
    clear hW2 k0 k1 q2' HC HGW c0 q1 q2
    go_wp2
    go_loopw [5,7] (fun vn vk wx=>∃ (k f:Nat) (y:Int),vk = .int .i64 k∧vn = .int .i64 y∧Hid (grK L W hi' f k y=(s.take (i+1)).foldl (gr1 L W) 0∧N - k≤f)∧Grown W2 wx∧k≤N+p) (fun _ vk _=>N - (intOf vk).toNat)
    case atStart=>exact ⟨p,N,x,rfl,rfl,⟨HK.out,by omega⟩,Grown.refl _,by omega⟩
    case round=>
     obtain ⟨k,f,y,rfl,rfl,HF,hGx,hkp⟩:=hrel
     have hk0:(0:Int)≤(k:Int):=by omega
     have c0:=(HG2.out.trans hGx).cellv d0
     have c1:=(HG2.out.trans hGx).cellv d1
     have qh:=hGx.cellv q22
     have hGwx:Grown w wr:=HG0.out.trans (HG2.out.trans hGx)
     by_cases hkN:k<N
     · have hkN':(k:Int)<(N:Int):=by omega
       obtain ⟨lg,lo',hla,cl⟩:=ir_cell (HL.out wr hGwx) (j:=k) (by rw [HN.out.1];exact hkN)
       obtain ⟨wg,wo,hwa,cw⟩:=ir_cell (HW.out wr hGwx) (j:=k) (by rw [HN.out.2.1];exact hkN)
       subst hla hwa
       obtain ⟨f',rfl⟩:∃ f',f=f'+1:=⟨f - 1,by have:=HF.out.2;omega⟩
       have hg:=HF.out.1
       rw [grK] at hg
       have HF2:Hid (N - k≤f'+1):=HF.out.2
       generalize bAt L k=bl at cl hg
       generalize bAt W k=bw at cw hg
       clear HF
       by_cases hle:bl≤hi'
       · rw [if_pos ⟨by rw [HN.out.1];exact hkN,hle⟩] at hg
         by_cases hgt:y<bw
         · as_aux_lemma=>
            have HQ:Hid (grK L W hi' f' (k+1) bw=(s.take (i+1)).foldl (gr1 L W) 0∧N - (k+1)≤f'):=by rw [if_pos hgt] at hg;exact ⟨hg,by have:=HF2.out;omega⟩
            clear hg HF2
            go_wp2
            go_quiet (fail)
            go_wp2
            exact ⟨⟨k+1,f',bw,by go_num,rfl,HQ,hGx.drewN _,by omega⟩,by simp [intOf];omega⟩
         · as_aux_lemma=>
            have HQ:Hid (grK L W hi' f' (k+1) y=(s.take (i+1)).foldl (gr1 L W) 0∧N - (k+1)≤f'):=by rw [if_neg hgt] at hg;exact ⟨hg,by have:=HF2.out;omega⟩
            clear hg HF2
            go_wp2
            go_quiet (fail)
            go_wp2
            exact ⟨⟨k+1,f',y,by go_num,rfl,HQ,hGx.drewN _,by omega⟩,by simp [intOf];omega⟩
       · as_aux_lemma=>
          have HQ:Hid (y=(s.take (i+1)).foldl (gr1 L W) 0):=by rw [if_neg (fun h=>hle h.2)] at hg;exact hg
          have HGF:Hid (∀ q,Grown W0 (wr.drewN q)):=fun q=>(HG2.out.trans hGx).drewN q
          clear hg HF2
          go_wp2
          go_quiet (fail)
          go_wp2
          exact ⟨⟨i+1,y,by go_num,rfl,by omega,HQ,HGF.out _⟩,by simp [intOf];omega⟩
     · as_aux_lemma=>
        have hge:¬ (k:Int)<(N:Int):=by omega
        have HQ:Hid (y=(s.take (i+1)).foldl (gr1 L W) 0):=by
         have hg:=HF.out.1
         cases f with
         | zero=>rw [grK] at hg;exact hg
         | succ f=>rw [grK,if_neg (fun h=>hkN (by rw [HN.out.1] at h;exact h.1))] at hg;exact hg
        have HGF:Hid (∀ q,Grown W0 (wr.drewN q)):=fun q=>(HG2.out.trans hGx).drewN q
        clear HF
        go_wp2
        go_quiet (fail)
        go_wp2
        exact ⟨⟨i+1,y,by go_num,rfl,by omega,HQ,HGF.out _⟩,by simp [intOf];omega⟩
  · as_aux_lemma=>
     have hge:¬ (i:Int)<(m:Int):=by omega
     have HQ:Hid (x=R):=by
      show x=R
      rw [HX.out,←HR.out,List.take_of_length_le (by rw [HN.out.2.2];omega)]
      rfl
     clear HX
     go_wp2
     go_ret
     exact ⟨by rw [HQ.out];rfl,HG0.out.trans hG⟩
def backP (r:Rl):List Pc:=r.res.drop r.cu.toNat
def mayB (p:Pc):List (Int × Int):=if p.k=3 then p.tl else [(p.u,p.u)]
set_option maxHeartbeats 1000000 in
theorem mayBe_any (p:Pc) (tv:Value) (w:World) (base:Nat) (ht:UR w base tv p.tl):Calls Tryz.prog 164 #[.agg #[.int .i64 p.k,.int .i64 p.u,.int .i64 p.y,tv]] w fun e w'=>∃ v,e = .returned v∧UR w' base v (mayB p)∧Grown w w':=by
 have HT:Hid (UR w base tv p.tl):=ht
 obtain ⟨ta,tc,rfl,_,_⟩:=ht
 obtain ⟨tn,htn⟩:∃ tn,p.tl.length=tn:=⟨_,rfl⟩
 rw [htn] at HT ⊢
 obtain ⟨pk,hpk⟩:∃ pk,p.k=pk:=⟨_,rfl⟩
 obtain ⟨pu,hpu⟩:∃ pu,p.u=pu:=⟨_,rfl⟩
 have HM:Hid (mayB p=if pk=3 then p.tl else [(pu,pu)]):=by show _=_;unfold mayB;rw [hpk,hpu]
 rw [hpk,hpu]
 clear hpk hpu htn
 by_cases h:pk=3
 · subst h
   go_enter Tryz.func164,Tryz.ntmps164
   go_wp2
   refine bodyPost_ret (v := .slice ta tn tc) (by simp [results,Tryz.f164,go_sem]) rfl ⟨_,rfl,?_,(Grown.refl _).alloc _⟩
   rw [HM.out]
   simp only [if_true]
   exact HT.out.below ((Grown.refl _).alloc _).below
 · have h':(pk == 3)=false:=by simpa using h
   go_enter Tryz.func164,Tryz.ntmps164
   go_wp2
   refine bodyPost_ret (v := .slice (some ⟨w.heap.size+1,0,none⟩) 1 1) (by simp [results,Tryz.f164,go_sem]) rfl ⟨_,rfl,?_,((Grown.refl _).alloc _).alloc _⟩
   rw [HM.out,if_neg h]
   refine ⟨_,1,rfl,Nat.le_refl _,.inr ⟨w.heap.size+1,0,rfl,fun j hj => ?_,.inr ⟨#[.int .i64 pu,.int .i64 pu],(0,0),?_⟩⟩⟩
   · have:j=0:=by simp at hj;omega
     subst this
     simp [rg]
   · have:=heap_alloc_new (w.alloc (.cells #[.int .i64 pk,.int .i64 pu,.int .i64 p.y,.slice ta tn tc] 64)) (.cells #[.int .i64 pu,.int .i64 pu] 67)
     simpa using this
set_option maxHeartbeats 1000000 in
theorem putBack_some (bg en:Bool) (a1 a2 a3:Option Addr) (n1 c1 n2 c2 n3 c3 g o n c:Nat) (cu:Nat) (w:World) (hcu:cu≤n) (hn:n≤c):Calls Tryz.prog 163 #[.agg #[.bool bg,.slice a1 n1 c1,.slice a2 n2 c2,.slice a3 n3 c3,.bool en,.slice (some ⟨g,o,none⟩) n c,.int .i64 cu]] w fun e w'=>∃ a',e = .returned (.slice a' (n - cu) (c - cu))∧(n - cu=0∨a'=some ⟨g,o+cu*4,none⟩)∧Grown w w':=by
 have h0:(0:Int)≤(cu:Int):=by omega
 have h1:(cu:Int)≤(n:Int):=by omega
 have h2:(n:Int)≤(c:Int):=by omega
 go_enter Tryz.func163,Tryz.ntmps163
 go_wp2
 · exact bodyPost_ret (v := .slice (some ⟨g,o,none⟩) (n - cu) 0) (by simp [results,Tryz.f163,go_sem]) rfl ⟨_,rfl,.inl (by omega),(Grown.refl _).alloc _⟩
 · exact bodyPost_ret (v := .slice (some ⟨g,o+cu*4,none⟩) (n - cu) (c - cu)) (by simp [results,Tryz.f163,go_sem]) rfl ⟨_,rfl,.inr rfl,(Grown.refl _).alloc _⟩
set_option maxHeartbeats 1000000 in
theorem putBack_nil (bg en:Bool) (a1 a2 a3:Option Addr) (n1 c1 n2 c2 n3 c3 c:Nat) (a:Option Addr) (w:World):Calls Tryz.prog 163 #[.agg #[.bool bg,.slice a1 n1 c1,.slice a2 n2 c2,.slice a3 n3 c3,.bool en,.slice a 0 c,.int .i64 0]] w fun e w'=>∃ a' c',e = .returned (.slice a' 0 c')∧Grown w w':=by
 go_enter Tryz.func163,Tryz.ntmps163
 go_wp2
 exact bodyPost_ret (v := .slice a 0 c) (by simp [results,Tryz.f163,go_sem]) rfl ⟨_,_,rfl,(Grown.refl _).alloc _⟩
theorem putBack_any (r:Rl) (av kv pv rv:Value) (w w0:World) (h:RR w0 av kv pv rv r) (hc:0≤r.cu) (hc2:r.cu≤r.res.length):Calls Tryz.prog 163 #[.agg #[.bool r.bg,av,kv,pv,.bool r.en,rv,.int .i64 r.cu]] w fun e w'=>∃ v,e = .returned v∧PR w0 v (backP r)∧Grown w w':=by
 obtain ⟨a1,n1,c1,rfl⟩:=h.a.sl
 obtain ⟨a2,n2,c2,rfl⟩:=h.k.sl
 obtain ⟨a3,n3,c3,rfl⟩:=h.p.sl
 obtain ⟨a,c,rfl,hcap,hr⟩:=h.r
 obtain ⟨cu,hcu⟩:∃ cu:Nat,r.cu=cu:=⟨r.cu.toNat,by omega⟩
 have hB:backP r=r.res.drop cu:=by unfold backP;rw [hcu];simp
 rw [hcu] at hc2 ⊢
 rw [hB]
 by_cases hn:r.res=[]
 · rw [hn] at hc2 ⊢
   have:cu=0:=by simp at hc2;omega
   subst this
   refine (putBack_nil _ _ _ _ _ _ _ _ _ _ _ _ _ w).mono ?_
   rintro e w' ⟨a',c',rfl,hg⟩
   exact ⟨_,rfl,⟨a',c',by simp,by simp,.inl (by simp)⟩,hg⟩
 · obtain ⟨g,o,rfl,hd⟩:=hr.resolve_left hn
   refine (putBack_some _ _ _ _ _ _ _ _ _ _ _ g o _ c cu w (by omega) hcap).mono ?_
   rintro e w' ⟨a',rfl,ha,hg⟩
   refine ⟨_,rfl,⟨a',c - cu,by simp,by simp;omega,?_⟩,hg⟩
   by_cases hz:r.res.length - cu=0
   · exact .inl (List.drop_eq_nil_of_le (by omega))
   · refine .inr ⟨g,o+cu*4,ha.resolve_left hz,fun j hj => ?_⟩
     have hj':cu+j<r.res.length:=by simp at hj;omega
     have:=hd (cu+j) hj'
     rw [List.getElem_drop,show o+cu*4+j*4=o+(cu+j)*4 by omega]
     exact this
theorem Rs.ur {w0 W:World} {v:Value} {l:List (Int × Int)} (h:Rs w0 v l) (hb:Below w0.heap.size w0 W):UR W w0.heap.size v l:=by
 obtain ⟨a,cap,h1,h2,h3⟩:=h
 refine ⟨a,cap,h1,h2,?_⟩
 by_cases hl:l=[]
 · exact .inl hl
 · obtain ⟨g,o,h4,h5⟩:=h3.resolve_left hl
   have hg:=h5.lt hl
   exact .inr ⟨g,o,h4,h5.below hb hg,.inl hg⟩
def pbs (n:Nat):List Pc→List Pb
 | []=>[]
 | p::l=>if p.k=2 then pbs n l else ⟨n,mayB p,1⟩::pbs n l
theorem pbs_snoc (n:Nat) (l:List Pc) (p:Pc):pbs n (l++[p])=pbs n l++(if p.k=2 then [] else [⟨n,mayB p,1⟩]):=by
 induction l with
 | nil=>simp [pbs]
 | cons q l ih=>
  simp only [List.cons_append,pbs,ih]
  split <;> simp
theorem pbs_len (n:Nat) (l:List Pc):(pbs n l).length≤l.length:=by
 induction l with
 | nil=>simp [pbs]
 | cons q l ih=>
  simp only [pbs]
  split <;> simp <;> omega
def bkI (rs:List Rl):Nat→List Pb
 | 0=>[]
 | k+1=>bkI rs k++pbs k ((rs[k]?.map backP).getD [])
def askI (r:Rl):Int:=2 - (r.key.length:Int)+((backP r).length:Int)
theorem bkI_len {rs:List Rl} (h:∀ r∈rs,r.res.length≤16):∀ k,(bkI rs k).length≤16*k
 | 0=>by simp [bkI]
 | k+1=>by
  have h1:=bkI_len h k
  have h2:=pbs_len k ((rs[k]?.map backP).getD [])
  have h3:((rs[k]?.map backP).getD []).length≤16:=by
   cases hk:rs[k]? with
   | none=>simp
   | some r=>
    have:=h r (List.mem_of_getElem? hk)
    simp [backP];omega
  simp only [bkI,List.length_append]
  omega
theorem zero3 (w:World):(zeroValue 3).run Tryz.prog w = .ok (.int .i64 0) w:=by kernel_rfl
theorem zero40 (w:World):(zeroValue 49).run Tryz.prog w = .ok (.slice none 0 0) w:=by kernel_rfl
def leanK (rs:List Rl) (bk:List Pb) (n k:Nat):List Nat:=(List.range k).filter fun i=>touchL (fstS rs n) (usAt bk i)
theorem leanK_succ (rs:List Rl) (bk:List Pb) (n k:Nat):leanK rs bk n (k+1)=leanK rs bk n k++(if touchL (fstS rs n) (usAt bk k) then [k] else []):=by
 unfold leanK
 rw [List.range_succ,List.filter_append]
 congr 1
 simp [List.filter_cons]
theorem leanK_all (rs:List Rl) (bk:List Pb) (n:Nat):leanK rs bk n bk.length=leanL rs bk n:=rfl
theorem leanK_len (rs:List Rl) (bk:List Pb) (n k:Nat):(leanK rs bk n k).length≤k:=by
 unfold leanK
 exact Nat.le_trans (List.length_filter_le _ _) (by simp)
def toI (l:List Nat):List Int:=l.map fun x:Nat=>(x:Int)
theorem toI_append (l k:List Nat):toI (l++k)=toI l++toI k:=by simp [toI]
theorem OwnI.lnr {W:World} {B base ga:Nat} {v:Value} {l:List Nat} (h:OwnI W B v (toI l)) (hb:base≤B) (hg:ga<B):LnR W base ga v l:=by
 have hlen:(toI l).length=l.length:=by simp [toI]
 rcases h.2 with ⟨rfl,h0⟩ | ⟨g,cap,cur,rfl,h1,h2,h3,_⟩
 · have:l=[]:=List.eq_nil_of_length_eq_zero (by omega)
   subst this
   exact ⟨none,0,rfl,Nat.le_refl _,.inl rfl⟩
 · refine ⟨_,cap,by rw [hlen],by omega,.inr ⟨g,cur,(0,0),rfl,by omega,by omega,h2,fun j hj => ?_⟩⟩
   have:=World.ownsRow.cells h rfl j (.int .i64 (l[j]:Nat)) (by simp [ints,toI,hj])
   rw [add_zero_at] at this
   exact this
structure Kok (rs:List Rl):Prop where
 k0:∀ r∈rs,0<r.key.length
 k1:∀ r∈rs,(keyAt r.key 0).length≤512
 n:rs.length≤256
theorem fstS_at {rs:List Rl} {n:Nat} (h:n<rs.length):fstS rs n=keyAt rs[n].key 0:=by simp [fstS,h]
theorem usAt_at {bk:List Pb} {n:Nat} (h:n<bk.length):usAt bk n=bk[n].us:=by simp [usAt,h]
set_option maxHeartbeats 8000000 in
theorem leaning_any {W w0:World} {sp m1 ga m2 N1 N2:Nat} {bv:Value} {uvs:List Value} {rv:Value} {rs:List Rl} {st:St} {ln:Int→Option Value} (n:Nat) (hS:Sc W w0 sp m1 ga m2 N1 N2 bv uvs rv rs st ln) (hn:n<rs.length) (hK:Kok rs) (hu:∀ b∈st.bk,b.us.length≤512) (hbl:st.bk.length≤4096) (hN:N2<1000000) :
 Calls Tryz.prog 186 #[.pointer (some ⟨sp,0,none⟩),.int .i64 n] W fun e w'=>∃ v ln',e = .returned v∧LnR w' w0.heap.size ga v (leanL rs st.bk n)∧Sc w' w0 sp m1 ga m2 N1 (N2+1) bv uvs rv rs st ln':=by
 have hnI:InI (n:Int):=⟨by omega,by have:=hK.n;omega⟩
 have HS:Hid (Sc W w0 sp m1 ga m2 N1 N2 bv uvs rv rs st ln):=hS
 have hL:=hS.lnm.look_ok (t:=159) (e:=49) Tryz.underlying159 (zero40 W) hnI
 have d0:W.cell? ⟨sp,0,none⟩=some rv:=by rw [cell_of hS.blk];simp
 have d3:W.cell? ⟨sp,3,none⟩=some bv:=by rw [cell_of hS.blk];simp
 have d4:W.cell? ⟨sp,4,none⟩=some (.map (some m2)):=by rw [cell_of hS.blk];simp
 have hnI':(n:Int)≤256:=by have:=hK.n;omega
 have hn0:(0:Int)≤(n:Int):=by omega
 cases hf:ln (n:Int) with
 | some v=>
  rw [hf] at hL
  simp only [Option.getD_some,Option.isSome_some] at hL
  have HV:Hid (LnR W w0.heap.size ga v (leanL rs st.bk n)):=by have:=(hS.lnr _ _ hf).2;show LnR _ _ _ _ _;simpa using this
  clear hS hf
  go_enter Tryz.func186,Tryz.ntmps186
  go_wp2
  go_ret
  exact ⟨v,ln,rfl,HV.out,HS.out.mono (Nat.le_refl _) (Nat.le_succ _)⟩
 | none=>
  rw [hf] at hL
  simp only [Option.getD_none,Option.isSome_none] at hL
  have HB:Hid (ga<W.heap.size∧w0.heap.size≤W.heap.size):=⟨(Array.getElem?_eq_some_iff.1 hS.asb).1,hS.bel.size⟩
  have HK:Hid (Kok rs):=hK
  have HU:Hid (∀ b∈st.bk,b.us.length≤512):=hu
  obtain ⟨q0,ba,bc,hbv,_,hbr⟩:=hS.bkr
  obtain ⟨nb,hnb⟩:∃ nb,st.bk.length=nb:=⟨_,rfl⟩
  have HNB:Hid (st.bk.length=nb):=hnb
  have HUL:Hid (uvs.length=nb):=q0.trans hnb
  rw [hnb] at hbv hbl
  have hbl':(nb:Int)≤4096:=by omega
  subst hbv
  obtain ⟨ra,rc,hrv,_,hrr⟩:=hS.rul
  have HR:Hid (∃ g o,ra=some ⟨g,o,none⟩∧∀ (j:Nat) (hj:j<rs.length),RAt w0 g (o+j*7) rs[j]):=hrr.resolve_left (fun e=>by rw [e] at hn;simp at hn)
  have HRL:Hid (n<rs.length):=hn
  obtain ⟨nr,hnr⟩:∃ nr,rs.length=nr:=⟨_,rfl⟩
  have hnn:(n:Int)<(nr:Int):=by omega
  rw [hnr] at hrv
  subst hrv
  have H0:Hid (OwnI W W.heap.size (.slice none 0 0) (toI (leanK rs st.bk n 0))):=OwnI.nil _ _
  clear hS hf hbr hrr hn hK hu hnb hnr q0
  go_enter Tryz.func186,Tryz.ntmps186
  go_wp2
  go_loopw [5,25] (fun vl vi wr=>∃ k:Nat,vi = .int .i64 k∧k≤nb∧Hid (OwnI wr W.heap.size vl (toI (leanK rs st.bk n k)))∧Hid (Below W.heap.size W wr)) (fun _ vi _=>nb - (intOf vi).toNat)
  case atStart=>exact ⟨0,rfl,by omega,H0,Below.refl _ _⟩
  case round=>
   obtain ⟨k,rfl,hk,HO,HBW⟩:=hrel
   clear H0
   have hk0:(0:Int)≤(k:Int):=by omega
   by_cases hlt:k<nb
   · have hlt':(k:Int)<(nb:Int):=by omega
     have hkb:k<st.bk.length:=by rw [HNB.out];exact hlt
     have hku:k<uvs.length:=by rw [HUL.out];exact hlt
     have hSr:=HS.out.below HBW.out
     obtain ⟨_,a',c',e',_,hbr⟩:=hSr.bkr
     obtain ⟨gb,cs,ha,_,hgb,hcells⟩:=hbr.resolve_left (fun e=>by rw [e] at hkb;simp at hkb)
     injection e' with e1 e2 e3
     clear e2 e3
     rw [ha] at e1
     subst e1
     obtain ⟨c0,c1,c2⟩:=hcells k hkb hku
     obtain ⟨g,o,hra,hRA⟩:=HR.out
     subst hra
     have hnl:n<rs.length:=HRL.out
     have hRn:=(hRA n hnl).below hSr.bel (Nat.le_refl _)
     obtain ⟨r,hr⟩:∃ r,rs[n]=r:=⟨_,rfl⟩
     have hkl:=HK.out.k0 _ (List.getElem_mem hnl)
     have hk1:=HK.out.k1 _ (List.getElem_mem hnl)
     have hfs:=fstS_at hnl
     rw [hr] at hRn hkl hk1 hfs
     obtain ⟨av,kv,pv,rv',r0,r1,r2,r3,r4,r5,r6,hRR⟩:=hRn
     obtain ⟨ka,kc,hkv,_,hkk⟩:=hRR.k
     obtain ⟨kg,ko,hka,hkd⟩:=hkk.resolve_left (fun e=>by rw [e] at hkl;simp at hkl)
     subst hka
     obtain ⟨sv,hs0,hsr⟩:=hkd 0 hkl
     rw [Nat.add_zero] at hs0
     subst hkv
     have hky:keyAt r.key 0=r.key[0]:=by simp [keyAt,hkl]
     rw [hky] at hfs hk1
     have hur:=hSr.urs k hkb hku
     have hul:=HU.out _ (List.getElem_mem hkb)
     have HT:Hid (∀ wx,Grown wr wx→Calls Tryz.prog 211 #[sv,uvs[k]] wx fun e w'=>e = .returned (.bool (touchL (fstS rs n) (usAt st.bk k)))∧Grown wx w'):=fun wx hx=>by
      rw [hfs,usAt_at hkb]
      exact touch_any _ _ _ _ _ (hsr.grown hx) (hur.rs.grown hx) (by omega) (by omega)
     obtain ⟨s1,s2,s3,rfl⟩:=hsr.sl
     obtain ⟨u1,u2,u3,hu4⟩:=hur.rs.sl
     rw [hu4] at c1 HT
     have hkn:(0:Int)<(r.key.length:Int):=by omega
     clear hSr hbr hgb hcells hRA hRR hkk hkd hsr hur hu4 r0 r1 r3 r4 r5 r6 hky hfs hk1 hul hr hnl
     clear hkl
     generalize r.key.length=kn at *
     generalize (st.bk[k].r:Nat)=xr at *
     generalize st.bk[k].wt=xw at *
     have HKS:Hid (leanK rs st.bk n (k+1)=leanK rs st.bk n k++(if touchL (fstS rs n) (usAt st.bk k) then [k] else [])):=leanK_succ _ _ _ _
     have d0r:=(cell_below d0 HBW.out (Nat.le_refl _))
     obtain ⟨tb,htb⟩:∃ tb,touchL (fstS rs n) (usAt st.bk k)=tb:=⟨_,rfl⟩
     rw [htb] at HT HKS
     clear htb
     obtain ⟨W5,hW5⟩:∃ W5,W5=wr.alloc (.cells #[.int .i64 xr,.slice u1 u2 u3,.int .i64 xw] 196):=⟨_,rfl⟩
     have hG5:Grown wr W5:=by rw [hW5];exact (Grown.refl _).alloc _
     have p1:W5.cell? ⟨wr.heap.size,1,none⟩=some (.slice u1 u2 u3):=by rw [hW5];simp
     have f0:=fun m os=>(hG5.quiet m os).cellv d0r
     have f1:=fun m os=>(hG5.quiet m os).cellv r2
     have f2:=fun m os=>(hG5.quiet m os).cellv hs0
     have f3:=fun m os=>((Grown.refl W5).quiet m os).cellv p1
     have HQ:Hid (∀ m os,Grown wr (Go.Sort.grow (W5.drewN m) os)):=fun m os=>hG5.quiet m os
     go_wp2
     rw [show wr.alloc (.cells #[.int .i64 xr,.slice u1 u2 u3,.int .i64 xw] 196)=W5 from hW5.symm]
     clear hW5 d0r r2 hs0 p1 c0 c1 c2
     refine wp_region_quiet_grown mixed (by kernel_rfl) ?_
     repeat (go_big_quiet_step ((go_at_call 211;exact grown_of (HT.out _ (HQ.out _ _)))))
     refine wpQuiet_nil ?_
     intro _ hw'
     obtain ⟨⟨nq,osq⟩,hw''⟩:=hw'
     subst hw''
     obtain ⟨w6,hw6⟩:∃ w6,w6=Go.Sort.grow (W5.drewN nq) osq:=⟨_,rfl⟩
     have HG6:Hid (Grown wr w6):=by rw [hw6];exact HQ.out _ _
     rw [←hw6]
     clear hw6 HQ f0 f1 f2 f3 hG5 HT
     cases tb with
     | false=>
      have HO2:Hid (OwnI w6 W.heap.size u5 (toI (leanK rs st.bk n (k+1)))):=by
       rw [HKS.out]
       simp only [Bool.false_eq_true,if_false,List.append_nil]
       exact HO.out.below HG6.out.below (Nat.le_refl _)
      have HB2:Hid (Below W.heap.size W w6):=HBW.out.trans (HG6.out.below.mono HBW.out.size)
      go_wp2
      exact ⟨⟨k+1,by go_num,by omega,HO2,HB2⟩,by simp [intOf];omega⟩
     | true=>
      have HO2:Hid (∀ ob,OwnI (w6.alloc ob) W.heap.size u5 (toI (leanK rs st.bk n k))):=fun ob=>(HO.out.below HG6.out.below (Nat.le_refl _)).alloc ob
      have HB2:Hid (∀ ob,Below W.heap.size W (w6.alloc ob)):=fun ob=>(HBW.out.trans (HG6.out.below.mono HBW.out.size)).alloc (Nat.le_trans HBW.out.size HG6.out.size) _
      have hlen:(toI (leanK rs st.bk n k)).length≤4096:=by have:=leanK_len rs st.bk n k;simp only [toI,List.length_map];omega
      have HLE:Hid ((toI (leanK rs st.bk n k)).length≤4096):=hlen
      have HSZ:Hid (W.heap.size≤w6.heap.size):=Nat.le_trans HBW.out.size HG6.out.size
      clear hlen
      go_wp2_with (at_builtin;go_must (refine push_I rfl _ _ 49 rfl Tryz.underlying49 W.heap.size u5 (toI (leanK rs st.bk n k)) rfl (HO2.out _) w6.heap.size 1 k rfl (by simp) (by have:=HLE.out;omega) (by have:=HSZ.out;simp;omega) ?_;intro v' w7 hO7 hB7))
      have HO3:Hid (OwnI w7 W.heap.size v' (toI (leanK rs st.bk n (k+1)))):=by
       rw [HKS.out,toI_append]
       exact hO7
      exact ⟨⟨k+1,by go_num,by omega,HO3,(HB2.out _).trans hB7⟩,by simp [intOf];omega⟩
   · have hge:¬ (k:Int)<(nb:Int):=by omega
     have hkn:k=nb:=by omega
     have HV:Hid (LnR wr w0.heap.size ga u5 (leanL rs st.bk n)):=by
      have:=HO.out
      rw [hkn,←HNB.out,leanK_all] at this
      exact this.lnr HB.out.2 HB.out.1
     have hSr:=HS.out.below HBW.out
     obtain ⟨w8,hrun,hI,ht⟩:=hSr.lnm.store (by omega) Tryz.underlying159 hnI u5
     have d4r:=cell_below d4 HBW.out (Nat.le_refl _)
     have HF:Hid (LnR w8 w0.heap.size ga u5 (leanL rs st.bk n)∧Sc w8 w0 sp m1 ga m2 N1 (N2+1) (.slice ba nb bc) uvs (.slice ra nr rc) rs st (updM ln n u5)):=by
      obtain ⟨es,c,ho⟩:=hSr.lnm.isMap
      exact ⟨HV.out.turn ho (.inr (by simp)) (fun b hb=>turned_other ht hb),hSr.turn4 ht hI HV.out⟩
     clear hSr hI ht HV HO hkn
     go_wp2
     go_ret
     exact ⟨u5,rfl,HF.out.1,_,HF.out.2⟩
theorem foldl_succ {α β:Type} (f:β→α→β) (b:β) (l:List α) {k:Nat} (h:k<l.length):(l.take (k+1)).foldl f b=f ((l.take k).foldl f b) l[k]:=by
 rw [List.take_add_one,List.foldl_append,List.getElem?_eq_getElem h]
 rfl
theorem free_of {W:World} {B j:Nat} {cs:Array Value} {t:TypeId} (h:W.heap[B]? = some (.cells cs t (0,0))):W.frozen? ⟨B,j,none⟩=false:=by
 simp [World.frozen?,h]
set_option maxHeartbeats 8000000 in
theorem lift_any {W w0:World} {sp m1 ga m2 N1 N2:Nat} {bv:Value} {uvs:List Value} {rv:Value} {rs:List Rl} {st:St} {ln:Int→Option Value} {cs:List Int} {us:List (List (Int × Int))} (n:Nat) (hS:Sc W w0 sp m1 ga m2 N1 N2 bv uvs rv rs st ln) (hO:OkSt cs us st) (hcl:cs.length=rs.length) (hn:n<rs.length) (hK:Kok rs) (hu:∀ u∈us,u.length≤512) (hN1:N1<1000000) (hN:N2<1000000) (h1:at0 st.ws n<at0 st.aq n) (h2:at0 st.aq n≤64) :
 Calls Tryz.prog 165 #[.pointer (some ⟨sp,0,none⟩),.int .i64 n] W fun e w'=>∃ ln',e = .returned (.tuple #[])∧Sc w' w0 sp m1 ga m2 (N1+1) (N2+1) bv uvs rv rs (liftP rs n st) ln':=by
 have hnI:InI (n:Int):=⟨by omega,by have:=hK.n;omega⟩
 have hnc:n<cs.length:=by omega
 obtain ⟨x,hx⟩:∃ x,at0 st.aq n=x:=⟨_,rfl⟩
 have hw1:=(hO.wb n hnc).1
 have hna:n<st.aq.length:=by rw [hO.al];exact hnc
 have hnw:n<st.ws.length:=by rw [hO.wl];exact hnc
 -- the map's store
 obtain ⟨W1,hrun,hI,ht⟩:=hS.wm.store (by omega) Tryz.underlying117 hnI (.int .i64 x)
 rw [wsF_set hnw] at hI
 have hS1:=hS.turn1 ht hI
 have hO1:OkSt cs us ⟨st.ws.set n x,st.aq,st.bk⟩:=hO.setw hnc (by omega) (by omega)
 have HS1:Hid (Sc W1 w0 sp m1 ga m2 (N1+1) N2 bv uvs rv rs ⟨st.ws.set n x,st.aq,st.bk⟩ ln):=hS1
 have d1:W.cell? ⟨sp,1,none⟩=some (.map (some m1)):=by rw [cell_of hS.blk];simp
 have d2:W.cell? ⟨sp,2,none⟩=some (.slice (some ⟨ga,0,none⟩) st.aq.length st.aq.length):=by rw [cell_of hS.blk];simp
 have da:W.cell? ⟨ga,n,none⟩=some (.int .i64 x):=by rw [cell_of hS.asb,←hx];simp [ints,at0,hna]
 have HC:Hid (Calls Tryz.prog 186 #[.pointer (some ⟨sp,0,none⟩),.int .i64 n] W1 fun e w'=>∃ v ln',e = .returned v∧LnR w' w0.heap.size ga v (leanL rs st.bk n)∧Sc w' w0 sp m1 ga m2 (N1+1) (N2+1) bv uvs rv rs ⟨st.ws.set n x,st.aq,st.bk⟩ ln'):=
  leaning_any n hS1 hn hK (fun b hb=>hu _ (by rw [←hO.uss];exact List.mem_map_of_mem hb)) hO.pl hN
 have HP:Hid (liftP rs n st=(leanL rs st.bk n).foldl (bump x) ⟨st.ws.set n x,st.aq,st.bk⟩):=by show _=_;unfold liftP;rw [hx]
 have HO1:Hid (OkSt cs us ⟨st.ws.set n x,st.aq,st.bk⟩):=hO1
 have HX:Hid (1≤x∧x≤64):=⟨by omega,by omega⟩
 have hxb:(1:Int)≤x∧x≤64:=⟨by omega,by omega⟩
 obtain ⟨L,hL⟩:∃ L,leanL rs st.bk n=L:=⟨_,rfl⟩
 have HLB:Hid (∀ i∈L,i<st.bk.length):=fun i hi=>by
  rw [←hL] at hi
  unfold leanL at hi
  have:=(List.mem_filter.1 hi).1
  simpa using this
 have HLL:Hid (L.length≤4096):=by
  have:=leanK_len rs st.bk n st.bk.length
  rw [leanK_all,hL] at this
  exact Nat.le_trans this hO.pl
 rw [hL] at HC HP
 obtain ⟨na,hna'⟩:∃ na,st.aq.length=na:=⟨_,rfl⟩
 have HNA:Hid (st.aq.length=na):=hna'
 have HNC:Hid (cs.length=na):=by rw [←hna'];exact hO.al.symm
 have hnn:(n:Int)<(na:Int):=by omega
 have hn0:(0:Int)≤(n:Int):=by omega
 have hnaI:(na:Int)≤256:=by have:=hO.n;rw [←hO.al,hna'] at this;omega
 rw [hna'] at d2
 have HBK:Hid (∀ k,((L.take k).foldl (bump x) ⟨st.ws.set n x,st.aq,st.bk⟩).bk.length=st.bk.length):=fun k=>by
  have:=(OkSt.bumps x hxb.1 hxb.2 (L.take k) _ hO1).uss
  rw [←hO.uss] at this
  simpa using congrArg List.length this
 clear hS hO hS1 hO1 hI ht hna' hL hu hK hcl hw1 hna hnw h1 h2 hx
 go_enter Tryz.func165,Tryz.ntmps165
 go_wp2_with fail
 refine HC.out.mono ?_
 rintro e w2 ⟨v,ln2,rfl,hv,hS2⟩
 have HV:Hid (LnR w2 w0.heap.size ga v L):=hv
 have HS2:Hid (Sc w2 w0 sp m1 ga m2 (N1+1) (N2+1) bv uvs rv rs ((L.take 0).foldl (bump x) ⟨st.ws.set n x,st.aq,st.bk⟩) ln2):=hS2
 obtain ⟨la,lc,rfl,_,_⟩:=hv
 obtain ⟨nl,hnl⟩:∃ nl,L.length=nl:=⟨_,rfl⟩
 have HNL:Hid (L.length=nl):=hnl
 rw [hnl] at HV ⊢
 have hnlI:(nl:Int)≤4096:=by have:=HLL.out;omega
 clear hS2 hnl HS1 HC
 go_wp2
 go_loopw [25] (fun vi wr=>∃ k:Nat,vi = .int .i64 k∧k≤nl∧Hid (LnR wr w0.heap.size ga (.slice la nl lc) L)∧Hid (Sc wr w0 sp m1 ga m2 (N1+1) (N2+1) bv uvs rv rs ((L.take k).foldl (bump x) ⟨st.ws.set n x,st.aq,st.bk⟩) ln2)) (fun vi _=>nl - (intOf vi).toNat)
 case atStart=>exact ⟨0,rfl,by omega,HV,HS2⟩
 case round=>
  obtain ⟨k,rfl,hk,HVr,HSr⟩:=hrel
  clear HV HS2
  have hk0:(0:Int)≤(k:Int):=by omega
  by_cases hlt:k<nl
  · have hlt':(k:Int)<(nl:Int):=by omega
    have hkl:k<L.length:=by rw [HNL.out];exact hlt
    have HFS:Hid ((L.take (k+1)).foldl (bump x) ⟨st.ws.set n x,st.aq,st.bk⟩=bump x ((L.take k).foldl (bump x) ⟨st.ws.set n x,st.aq,st.bk⟩) L[k]):=foldl_succ _ _ _ hkl
    have hOk:=OkSt.bumps x HX.out.1 HX.out.2 (L.take k) _ HO1.out
    have hbl:=HBK.out k
    have hib:L[k]<st.bk.length:=HLB.out _ (List.getElem_mem hkl)
    obtain ⟨sk,hsk⟩:∃ sk,(L.take k).foldl (bump x) ⟨st.ws.set n x,st.aq,st.bk⟩=sk:=⟨_,rfl⟩
    rw [hsk] at HFS HSr hOk hbl
    obtain ⟨a',c',e',_,hlr⟩:=HVr.out
    obtain ⟨g,lcs,lm,ha',_,hgn,hgl,hcell⟩:=hlr.resolve_left (fun e=>by rw [e] at hkl;simp at hkl)
    have c0:=hcell k hkl
    obtain ⟨i,hi⟩:∃ i,L[k]=i:=⟨_,rfl⟩
    rw [hi] at HFS hib c0
    have hSr:=HSr.out
    have hi2:i<sk.bk.length:=by omega
    have hub:i<uvs.length:=by rw [hSr.bkr.1];exact hi2
    obtain ⟨b,hb⟩:∃ b,sk.bk[i]? = some b:=⟨_,List.getElem?_eq_getElem hi2⟩
    have hbi:=(List.getElem?_eq_some_iff.1 hb).2
    obtain ⟨_,ba,bc,hbv,_,hbr⟩:=hSr.bkr
    obtain ⟨gb,bcs,hba,hgb0,hgb,hbc⟩:=hbr.resolve_left (fun e=>by rw [e] at hi2;simp at hi2)
    obtain ⟨x0,x1,x2⟩:=hbc i hi2 hub
    rw [hbi] at x0 x2
    have hpb:=hOk.pb b (List.mem_of_getElem? hb)
    have hab:=hOk.ab hpb.1
    have hal:sk.aq.length=na:=by rw [hOk.al];exact HNC.out
    have y2:wr.cell? ⟨sp,2,none⟩=some (.slice (some ⟨ga,0,none⟩) na na):=by rw [cell_of hSr.blk];simp [hal]
    have y3:wr.cell? ⟨sp,3,none⟩=some bv:=by rw [cell_of hSr.blk];simp
    have hbra:b.r<sk.aq.length:=by rw [hOk.al];exact hpb.1
    have ya:wr.cell? ⟨ga,b.r,none⟩=some (.int .i64 (at0 sk.aq b.r)):=by rw [cell_of hSr.asb];simp [ints,at0,hbra]
    have hin:(i:Int)<(sk.bk.length:Int):=by omega
    have hi0:(0:Int)≤(i:Int):=by omega
    have hblI:(sk.bk.length:Int)≤4096:=by have:=hOk.pl;omega
    have hrn:(b.r:Int)<(na:Int):=by have:=HNC.out;omega
    have hr0:(0:Int)≤(b.r:Int):=by omega
    have HSA:Hid (∀ W',Grown wr W'→Sc W' w0 sp m1 ga m2 (N1+1) (N2+1) bv uvs rv rs sk ln2):=fun W' h=>hSr.grown h
    have HVA:Hid (∀ W',Grown wr W'→LnR W' w0.heap.size ga (.slice la nl lc) L):=fun W' h=>HVr.out.below h.below
    have HB:Hid (sk.bk[i]? = some b):=hb
    have HBV:Hid (bv = .slice ba sk.bk.length bc):=hbv
    have HGB:Hid (ba=some ⟨gb,0,none⟩):=hba
    rw [hbv,hba] at y3
    obtain ⟨nbk,hnbk⟩:∃ nbk,sk.bk.length=nbk:=⟨_,rfl⟩
    rw [hnbk] at y3 hin hblI
    injection e' with e1 e2 e3
    clear e2 e3
    rw [ha'] at e1
    subst e1
    obtain ⟨br,hbr'⟩:∃ br,b.r=br:=⟨_,rfl⟩
    obtain ⟨bw,hbw⟩:∃ bw,b.wt=bw:=⟨_,rfl⟩
    obtain ⟨aa,haa⟩:∃ aa,at0 sk.aq b.r=aa:=⟨_,rfl⟩
    have HBR:Hid (b.r=br∧b.wt=bw∧at0 sk.aq br=aa):=⟨hbr',hbw,by rw [←hbr'];exact haa⟩
    rw [haa] at ya hab
    rw [hbr'] at x0 hrn hr0 ya
    rw [hbw] at x2 hpb
    have hbwb:=hpb.2
    have hxb2:=HX.out
    have HGO:Hid (∃ cs,wr.heap[gb]? = some (.cells cs 196 (0,0))):=⟨_,hgb⟩
    have HGA:Hid (ga≠gb):=ne_obj hSr.asb hgb (by simp)
    have z1:wr.frozen? ⟨ga,br,none⟩=false:=free_of hSr.asb
    have z2:∀ u,(wr.setCell ⟨ga,br,none⟩ u).frozen? ⟨gb,i*3+2,none⟩=false:=fun u=>free_of ((turns_set wr ga br u gb (HGA.out ∘ Eq.symm)).trans hgb)
    have z3:∀ u,(wr.setCell ⟨ga,br,none⟩ u).cell? ⟨gb,i*3+2,none⟩=some (.int .i64 bw):=fun u=>(cell_same (turns_set wr ga br u gb (HGA.out ∘ Eq.symm))).trans x2
    clear hSr hOk hbl hsk hlr hgl hcell hi hbi hbr hbc hb hbv hba hpb hal hbra hbr' hbw haa hnbk hub hib hi2 x1 ha' hgb hgb0
    by_cases hcmp:bw<x
    · as_aux_lemma=>
       have HE:Hid (bump x sk i=⟨sk.ws,sk.aq.set br (aa+(x - bw)),sk.bk.set i ⟨b.r,b.us,x⟩⟩):=by
        show _=_
        unfold bump
        rw [HB.out]
        simp only
        rw [if_pos (by rw [HBR.out.2.1];exact hcmp),HBR.out.1,HBR.out.2.1,HBR.out.2.2]
       have HF:Hid (Sc ((wr.setCell ⟨ga,br,none⟩ (.int .i64 (aa+(x - bw)))).setCell ⟨gb,i*3+2,none⟩ (.int .i64 x)).drew w0 sp m1 ga m2 (N1+1) (N2+1) bv uvs rv rs ((L.take (k+1)).foldl (bump x) ⟨st.ws.set n x,st.aq,st.bk⟩) ln2):=by
        show Sc _ _ _ _ _ _ _ _ _ _ _ _ _ _
        rw [HFS.out,HE.out]
        have t2:=HSr.out.turn2 br (aa+(x - bw))
        have t3:=t2.turn3 (i:=i) (by rw [HBV.out,HGB.out]) HB.out x
        exact t3.grown (Grown.refl _).drew
       have HVF:Hid (LnR ((wr.setCell ⟨ga,br,none⟩ (.int .i64 (aa+(x - bw)))).setCell ⟨gb,i*3+2,none⟩ (.int .i64 x)).drew w0.heap.size ga (.slice (some ⟨g,0,none⟩) nl lc) L):=by
        have v1:=HVr.out.turn HSr.out.asb (.inl rfl) (turns_set wr ga br (.int .i64 (aa+(x - bw))))
        have v2:=v1.turn ((turns_set wr ga br (.int .i64 (aa+(x - bw))) gb (HGA.out ∘ Eq.symm)).trans HGO.out.choose_spec) (.inr (by simp)) (turns_set _ gb (i*3+2) (.int .i64 x))
        exact v2.below (Grown.refl _).drew.below
       clear HE HFS HSA HVA HVr HSr HGO
       go_wp2
       go_region
       go_wp2
       exact ⟨⟨k+1,by go_num,by omega,HVF,HF⟩,by simp [intOf];omega⟩
    · as_aux_lemma=>
       have HE:Hid (bump x sk i=sk):=by
        show _=_
        unfold bump
        rw [HB.out]
        simp only
        rw [if_neg (by rw [HBR.out.2.1];exact hcmp)]
       have hS3:Hid (Sc wr w0 sp m1 ga m2 (N1+1) (N2+1) bv uvs rv rs ((L.take (k+1)).foldl (bump x) ⟨st.ws.set n x,st.aq,st.bk⟩) ln2):=by
        show Sc _ _ _ _ _ _ _ _ _ _ _ _ _ _
        rw [HFS.out,HE.out];exact HSr.out
       clear HFS HE
       go_wp2
       exact ⟨⟨k+1,by go_num,by omega,HVr,hS3⟩,by simp [intOf];omega⟩
  · have hge:¬ (k:Int)<(nl:Int):=by omega
    have hS3:Hid (Sc wr w0 sp m1 ga m2 (N1+1) (N2+1) bv uvs rv rs (liftP rs n st) ln2):=by
     show Sc _ _ _ _ _ _ _ _ _ _ _ _ _ _
     have:=HSr.out
     rw [List.take_of_length_le (by rw [HNL.out];omega)] at this
     rw [HP.out];exact this
    clear HSr
    go_wp2
    exact bodyPost_end (v := .tuple #[]) (by simp [results,Tryz.f165,go_sem]) rfl ⟨rfl,ln2,hS3.out⟩
def cpW:List Bool→List Pc→Bool
 | _,[]=>false
 | c,p::l=>if p.k≠2 then cpW c l else if (c[p.y.toNat]?).getD false then true else cpW (c.set p.y.toNat true) l
def copB (r:Rl):Bool:=cpW (true::List.replicate 7 false) (backP r)
def bools (l:List Bool):List Value:=l.map fun x => .bool x
theorem drop_pl {ps:List Pc} {k:Nat} (h:k<ps.length):ps.drop k=ps[k]::ps.drop (k+1):=List.drop_eq_getElem_cons h
set_option maxHeartbeats 4000000 in
theorem copies_any (r:Rl) (av kv pv rv:Value) (w:World) (h:RR w av kv pv rv r) (hO:Ok r):Calls Tryz.prog 131 #[.agg #[.bool r.bg,av,kv,pv,.bool r.en,rv,.int .i64 r.cu]] w fun e w'=>e = .returned (.bool (copB r))∧Below w.heap.size w w':=by
 have HPB:Hid (∀ wx,Calls Tryz.prog 163 #[.agg #[.bool r.bg,av,kv,pv,.bool r.en,rv,.int .i64 r.cu]] wx fun e w'=>∃ v,e = .returned v∧PR w v (backP r)∧Grown wx w'):=fun wx=>putBack_any r av kv pv rv wx w h hO.c0 hO.c1
 have HY:Hid (∀ p∈backP r,p.k=2→0≤p.y∧p.y<8):=fun p hp hk=>by
  have h1:=pc_ok (hO.pc p (List.mem_of_mem_drop hp))
  have h2:=hO.k8
  rcases h1 with ⟨h1,_⟩ | ⟨_,_,_,h3,h4⟩ | ⟨h1,_⟩
  · omega
  · omega
  · omega
 have HL:Hid ((backP r).length≤16):=by have:=hO.r16;simp [Hid,backP];omega
 obtain ⟨a1,n1,c1,rfl⟩:=h.a.sl
 obtain ⟨a2,n2,c2,rfl⟩:=h.k.sl
 obtain ⟨a3,n3,c3,rfl⟩:=h.p.sl
 obtain ⟨a5,n5,c5,rfl⟩:=h.r.sl
 obtain ⟨R,hR⟩:∃ R,copB r=R:=⟨_,rfl⟩
 have HR:Hid (cpW (true::List.replicate 7 false) ((backP r).drop 0)=R):=hR
 rw [hR]
 obtain ⟨xb,hxb⟩:∃ xb,r.bg=xb:=⟨_,rfl⟩
 obtain ⟨xe,hxe⟩:∃ xe,r.en=xe:=⟨_,rfl⟩
 obtain ⟨xc,hxc⟩:∃ xc,r.cu=xc:=⟨_,rfl⟩
 rw [hxb,hxe,hxc] at HPB ⊢
 clear hR hxb hxe hxc h hO
 go_enter Tryz.func131,Tryz.ntmps131
 go_wp2_with fail
 refine (HPB.out _).mono ?_
 rintro e w2 ⟨v,rfl,hPR,hG2⟩
 have HPR:Hid (PR w v (backP r)):=hPR
 have HC0:Hid (w2.heap[w.heap.size+1]? = some (.cells (bools (true::List.replicate 7 false)).toArray 190 (0,0))∧Below w.heap.size w w2):=by
  refine ⟨?_,(((Grown.refl w).alloc _).alloc _).below.trans (hG2.below.mono (((Grown.refl w).alloc _).alloc _).size)⟩
  rw [hG2.below.block (w.heap.size+1) (by simp)]
  have e:=heap_alloc_new (w.alloc (.cells #[.bool xb,.slice a1 n1 c1,.slice a2 n2 c2,.slice a3 n3 c3,.bool xe,.slice a5 n5 c5,.int .i64 xc] 60)) (.cells #[.bool true,.bool false,.bool false,.bool false,.bool false,.bool false,.bool false,.bool false] 190)
  simpa [bools,List.replicate] using e
 obtain ⟨pa,pc,rfl,_,_⟩:=hPR
 obtain ⟨nb,hnb⟩:∃ nb,(backP r).length=nb:=⟨_,rfl⟩
 have HNB:Hid ((backP r).length=nb):=hnb
 rw [hnb] at HPR HL ⊢
 have hnbI:(nb:Int)≤16:=by have:=HL.out;omega
 clear hnb hG2 HPB
 go_wp2
 have HBS0:Hid (w.heap.size≤w.heap.size+1):=Nat.le_succ _
 generalize w.heap.size+1=B at HC0 HBS0 ⊢
 have HBS:Hid (w.heap.size≤B):=HBS0.out
 go_loopw [10] (fun vi wr=>∃ (k:Nat) (c:List Bool),vi = .int .i64 k∧k≤nb∧Hid (cpW c ((backP r).drop k)=R∧c.length=8∧wr.heap[B]? = some (.cells (bools c).toArray 190 (0,0))∧Below w.heap.size w wr)) (fun vi _=>nb - (intOf vi).toNat)
 case atStart=>exact ⟨0,_,rfl,by omega,HR.out,by simp,HC0.out.1,HC0.out.2⟩
 case round=>
  obtain ⟨k,c,rfl,hk,H⟩:=hrel
  clear HC0 HR
  have hk0:(0:Int)≤(k:Int):=by omega
  by_cases hlt:k<nb
  · have hlt':(k:Int)<(nb:Int):=by omega
    have hkb:k<(backP r).length:=by rw [HNB.out];exact hlt
    obtain ⟨hcp,hc8,hB,hbel⟩:=H.out
    clear H
    obtain ⟨a',c',e',_,hPr⟩:=HPR.out
    obtain ⟨pg,po,ha',hPd⟩:=hPr.resolve_left (fun e=>by rw [e] at hkb;simp at hkb)
    injection e' with e1 e2 e3
    clear e2 e3
    rw [ha'] at e1
    subst e1
    have hPA:=hPd k hkb
    rw [drop_pl hkb] at hcp
    have hy:=HY.out _ (List.getElem_mem hkb)
    obtain ⟨p,hp⟩:∃ p,(backP r)[k]=p:=⟨_,rfl⟩
    rw [hp] at hPA hcp hy
    obtain ⟨tv,x0,x1,x2,x3,hRs⟩:=hPA
    have y0:=cell_below x0 hbel (Nat.le_refl _)
    have y1:=cell_below x1 hbel (Nat.le_refl _)
    have y2:=cell_below x2 hbel (Nat.le_refl _)
    have y3:=cell_below x3 hbel (Nat.le_refl _)
    obtain ⟨ta,tn,tc,rfl⟩:=hRs.sl
    have HBL:Hid (∀ ob,Below w.heap.size w (wr.alloc ob)):=fun ob=>hbel.trans (((Grown.refl wr).alloc ob).below.mono hbel.size)
    have hBa:∀ ob,(wr.alloc ob).heap[B]? = some (.cells (bools c).toArray 190 (0,0)):=fun ob=>(((Grown.refl wr).alloc ob).below.block B (Array.getElem?_eq_some_iff.1 hB).1).trans hB
    have HBA:Hid (∀ ob,(wr.alloc ob).heap[B]? = some (.cells (bools c).toArray 190 (0,0))):=hBa
    unfold cpW at hcp
    obtain ⟨pk,hpk⟩:∃ pk,p.k=pk:=⟨_,rfl⟩
    obtain ⟨py,hpy⟩:∃ py,p.y=py:=⟨_,rfl⟩
    generalize p.u=pu at y1
    rw [hpk] at y0 hcp hy
    rw [hpy] at y2 hcp hy
    clear hPr ha' hPd hRs hp x0 x1 x2 x3 hpk hpy
    by_cases h2:pk=2
    · subst h2
      obtain ⟨q0,q8⟩:=hy rfl
      rw [if_neg (by simp)] at hcp
      obtain ⟨y,rfl⟩:∃ y:Nat,py=y:=⟨py.toNat,by omega⟩
      have hyc:y<c.length:=by omega
      rw [show ((y:Nat):Int).toNat=y by omega,List.getElem?_eq_getElem hyc] at hcp
      simp only [Option.getD_some] at hcp
      have cy:∀ ob,(wr.alloc ob).cell? ⟨B,y,none⟩=some (.bool c[y]):=fun ob=>by rw [cell_of (hBa ob)];simp [bools,hyc]
      have fy:∀ ob,(wr.alloc ob).frozen? ⟨B,y,none⟩=false:=fun ob=>free_of (hBa ob)
      obtain ⟨cb,hcb⟩:∃ cb,c[y]=cb:=⟨_,rfl⟩
      rw [hcb] at cy hcp
      cases cb with
      | true=>
       as_aux_lemma=>
        have HF:Hid (R=true):=by show R=true;simpa using hcp.symm
        clear hcp hB hBa HBA hcb hy hbel
        go_wp2
        go_ret
        have hrt:=HF.out
        exact ⟨by first | rfl | (rw [hrt];rfl),HBL.out _⟩
      | false=>
       as_aux_lemma=>
        have HF:Hid (cpW (c.set y true) ((backP r).drop (k+1))=R):=by show cpW _ _=R;simpa using hcp
        clear hcp hB hBa hcb hy hbel
        go_wp2
        exact ⟨⟨k+1,c.set y true,by go_num,by omega,HF.out,by simpa using hc8,by rw [set_heap (HBA.out _)];simp [bools,List.map_set],(HBL.out _).setCell (p:=⟨B,y,none⟩) (by have:=HBS.out;omega) _⟩,by simp [intOf];omega⟩
    · as_aux_lemma=>
       have h2':(pk != 2)=true:=by simpa using h2
       have HF:Hid (cpW c ((backP r).drop (k+1))=R):=by rw [if_pos h2] at hcp;exact hcp
       clear hcp hB hBa hy hbel
       go_wp2
       exact ⟨⟨k+1,c,by go_num,by omega,HF.out,hc8,HBA.out _,HBL.out _⟩,by simp [intOf];omega⟩
  · as_aux_lemma=>
     have hge:¬ (k:Int)<(nb:Int):=by omega
     obtain ⟨hcp,_,_,hbel⟩:=H.out
     rw [List.drop_eq_nil_of_le (by rw [HNB.out];omega),cpW] at hcp
     have HF:Hid (R=false∧Below w.heap.size w wr):=⟨hcp.symm,hbel⟩
     clear H hcp hbel
     go_wp2
     go_ret
     have hrt:=HF.out.1
     exact ⟨by first | rfl | (rw [hrt];rfl),HF.out.2⟩
set_option maxHeartbeats 1000000 in
theorem rback_some (bg en:Bool) (a1 a2 a3:Option Addr) (n1 c1 n2 c2 n3 c3 g o n c:Nat) (cu:Nat) (w:World) (hcu:cu≤n) (hn:n≤c):Calls Tryz.prog 85 #[.agg #[.bool bg,.slice a1 n1 c1,.slice a2 n2 c2,.slice a3 n3 c3,.bool en,.slice (some ⟨g,o,none⟩) n c,.int .i64 cu]] w fun e w'=>∃ a',e = .returned (.slice a' (n - cu) (c - cu))∧(n - cu=0∨a'=some ⟨g,o+cu*4,none⟩)∧Grown w w':=by
 have h0:(0:Int)≤(cu:Int):=by omega
 have h1:(cu:Int)≤(n:Int):=by omega
 have h2:(n:Int)≤(c:Int):=by omega
 go_enter Tryz.func85,Tryz.ntmps85
 go_wp2
 · exact bodyPost_ret (v := .slice (some ⟨g,o,none⟩) (n - cu) 0) (by simp [results,Tryz.f85,go_sem]) rfl ⟨_,rfl,.inl (by omega),(Grown.refl _).alloc _⟩
 · exact bodyPost_ret (v := .slice (some ⟨g,o+cu*4,none⟩) (n - cu) (c - cu)) (by simp [results,Tryz.f85,go_sem]) rfl ⟨_,rfl,.inr rfl,(Grown.refl _).alloc _⟩
set_option maxHeartbeats 1000000 in
theorem rback_nil (bg en:Bool) (a1 a2 a3:Option Addr) (n1 c1 n2 c2 n3 c3 c:Nat) (a:Option Addr) (w:World):Calls Tryz.prog 85 #[.agg #[.bool bg,.slice a1 n1 c1,.slice a2 n2 c2,.slice a3 n3 c3,.bool en,.slice a 0 c,.int .i64 0]] w fun e w'=>∃ a' c',e = .returned (.slice a' 0 c')∧Grown w w':=by
 go_enter Tryz.func85,Tryz.ntmps85
 go_wp2
 exact bodyPost_ret (v := .slice a 0 c) (by simp [results,Tryz.f85,go_sem]) rfl ⟨_,_,rfl,(Grown.refl _).alloc _⟩
theorem rback_any (r:Rl) (av kv pv rv:Value) (w w0:World) (h:RR w0 av kv pv rv r) (hc:0≤r.cu) (hc2:r.cu≤r.res.length):Calls Tryz.prog 85 #[.agg #[.bool r.bg,av,kv,pv,.bool r.en,rv,.int .i64 r.cu]] w fun e w'=>∃ v,e = .returned v∧PR w0 v (backP r)∧Grown w w':=by
 obtain ⟨a1,n1,c1,rfl⟩:=h.a.sl
 obtain ⟨a2,n2,c2,rfl⟩:=h.k.sl
 obtain ⟨a3,n3,c3,rfl⟩:=h.p.sl
 obtain ⟨a,c,rfl,hcap,hr⟩:=h.r
 obtain ⟨cu,hcu⟩:∃ cu:Nat,r.cu=cu:=⟨r.cu.toNat,by omega⟩
 have hB:backP r=r.res.drop cu:=by unfold backP;rw [hcu];simp
 rw [hcu] at hc2 ⊢
 rw [hB]
 by_cases hn:r.res=[]
 · rw [hn] at hc2 ⊢
   have:cu=0:=by simp at hc2;omega
   subst this
   refine (rback_nil _ _ _ _ _ _ _ _ _ _ _ _ _ w).mono ?_
   rintro e w' ⟨a',c',rfl,hg⟩
   exact ⟨_,rfl,⟨a',c',by simp,by simp,.inl (by simp)⟩,hg⟩
 · obtain ⟨g,o,rfl,hd⟩:=hr.resolve_left hn
   refine (rback_some _ _ _ _ _ _ _ _ _ _ _ g o _ c cu w (by omega) hcap).mono ?_
   rintro e w' ⟨a',rfl,ha,hg⟩
   refine ⟨_,rfl,⟨a',c - cu,by simp,by simp;omega,?_⟩,hg⟩
   by_cases hz:r.res.length - cu=0
   · exact .inl (List.drop_eq_nil_of_le (by omega))
   · refine .inr ⟨g,o+cu*4,ha.resolve_left hz,fun j hj => ?_⟩
     have hj':cu+j<r.res.length:=by simp at hj;omega
     have:=hd (cu+j) hj'
     rw [List.getElem_drop,show o+cu*4+j*4=o+(cu+j)*4 by omega]
     exact this
def wrg:List Pc→List Pc→Bool
 | _,[]=>false
 | seen,p::l=>if p.k≠2 then wrg (seen++[p]) l else if p.y=0∨(seen.any fun q=>decide (q.k=2) && decide (q.y=p.y))=true then true else wrg (seen++[p]) l
theorem wrg_cp:∀ (l seen:List Pc) (c:List Bool),c.length=8→(∀ p∈l,p.k=2→0≤p.y∧p.y<8)→(∀ y:Nat,y<8→((c[y]?).getD false=true↔y=0∨(seen.any fun q=>decide (q.k=2) && decide (q.y=(y:Int)))=true))→wrg seen l=cpW c l
 | [],_,_,_,_,_=>rfl
 | p::l,seen,c,hc,hy,hinv=>by
  have hl:∀ q∈l,q.k=2→0≤q.y∧q.y<8:=fun q hq=>hy q (List.mem_cons_of_mem _ hq)
  by_cases h2:p.k=2
  · rw [wrg,cpW,if_neg (not_not_intro h2),if_neg (not_not_intro h2)]
    obtain ⟨y0,y8⟩:=hy p List.mem_cons_self h2
    obtain ⟨y,hyy⟩:∃ y:Nat,p.y=y:=⟨p.y.toNat,by omega⟩
    have hi:=hinv y (by omega)
    rw [hyy,show ((y:Nat):Int).toNat=y by omega]
    by_cases hcy:(c[y]?).getD false=true
    · have hor:(y:Int)=0∨(seen.any fun q=>decide (q.k=2) && decide (q.y=(y:Int)))=true:=(hi.1 hcy).imp (fun h=>by omega) id
      rw [if_pos hcy,if_pos hor]
    · have hor:¬ ((y:Int)=0∨(seen.any fun q=>decide (q.k=2) && decide (q.y=(y:Int)))=true):=fun h=>hcy (hi.2 (h.imp (fun h=>by omega) id))
      rw [if_neg hcy,if_neg hor]
      · refine wrg_cp l _ _ (by simpa using hc) hl fun z hz => ?_
        rw [List.getElem?_set]
        by_cases e:y=z
        · subst e
          rw [if_pos rfl,if_pos (by omega)]
          simp [h2,hyy]
        · have e':¬ (y:Int)=(z:Int):=by omega
          rw [if_neg e,hinv z hz]
          simp [h2,hyy,e']
  · rw [wrg,cpW,if_pos h2,if_pos h2]
    refine wrg_cp l _ _ hc hl fun z hz => ?_
    rw [hinv z hz]
    simp [h2]
theorem wrg_copB {r:Rl} (hO:Ok r):wrg [] (backP r)=copB r:=by
 unfold copB
 refine wrg_cp _ _ _ (by simp) (fun p hp hk => ?_) fun y hy => ?_
 · have h1:=pc_ok (hO.pc p (List.mem_of_mem_drop hp))
   have h2:=hO.k8
   rcases h1 with ⟨h1,_⟩ | ⟨_,_,_,h3,h4⟩ | ⟨h1,_⟩ <;> omega
 · cases y with
   | zero=>simp
   | succ y=>
    have:(List.replicate 7 false)[y]?.getD false=false:=by
     rw [List.getElem?_replicate]
     split <;> rfl
    have h0:¬ ((y+1:Nat)=0):=by omega
    simp only [List.getElem?_cons_succ,this,List.any_nil]
    simp
theorem wrg_step {l:List Pc} {k:Nat} (hk:k<l.length):wrg (l.take k) (l.drop k)=if l[k].k≠2 then wrg (l.take (k+1)) (l.drop (k+1)) else if l[k].y=0∨((l.take k).any fun q=>decide (q.k=2) && decide (q.y=l[k].y))=true then true else wrg (l.take (k+1)) (l.drop (k+1)):=by
 have h1:l.take (k+1)=l.take k++[l[k]]:=by rw [List.take_add_one,List.getElem?_eq_getElem hk];rfl
 rw [List.drop_eq_getElem_cons hk,wrg,h1]
theorem any_take {l:List Pc} {k:Nat} (hk:k<l.length) (y:Int):((l.take (k+1)).any fun q=>decide (q.k=2) && decide (q.y=y))=(((l.take k).any fun q=>decide (q.k=2) && decide (q.y=y)) || (decide (l[k].k=2) && decide (l[k].y=y))):=by
 rw [List.take_add_one,List.getElem?_eq_getElem hk,List.any_append]
 simp
set_option maxHeartbeats 4000000 in
theorem wrong_any (r:Rl) (av kv pv rv:Value) (w:World) (h:RR w av kv pv rv r) (hO:Ok r):Calls Tryz.prog 53 #[.agg #[.bool r.bg,av,kv,pv,.bool r.en,rv,.int .i64 r.cu]] w fun e w'=>e = .returned (.bool (copB r))∧Grown w w':=by
 have HPB:Hid (∀ wx,Calls Tryz.prog 85 #[.agg #[.bool r.bg,av,kv,pv,.bool r.en,rv,.int .i64 r.cu]] wx fun e w'=>∃ v,e = .returned v∧PR w v (backP r)∧Grown wx w'):=fun wx=>rback_any r av kv pv rv wx w h hO.c0 hO.c1
 have HL:Hid ((backP r).length≤16):=by show (backP r).length≤16;have:=hO.r16;simp [backP];omega
 obtain ⟨a1,n1,c1,rfl⟩:=h.a.sl
 obtain ⟨a2,n2,c2,rfl⟩:=h.k.sl
 obtain ⟨a3,n3,c3,rfl⟩:=h.p.sl
 obtain ⟨a5,n5,c5,rfl⟩:=h.r.sl
 obtain ⟨R,hR⟩:∃ R,copB r=R:=⟨_,rfl⟩
 have HR:Hid (wrg ((backP r).take 0) ((backP r).drop 0)=R):=by show wrg [] (backP r)=R;rw [wrg_copB hO,hR]
 rw [hR]
 obtain ⟨xb,hxb⟩:∃ xb,r.bg=xb:=⟨_,rfl⟩
 obtain ⟨xe,hxe⟩:∃ xe,r.en=xe:=⟨_,rfl⟩
 obtain ⟨xc,hxc⟩:∃ xc,r.cu=xc:=⟨_,rfl⟩
 rw [hxb,hxe,hxc] at HPB ⊢
 clear hR hxb hxe hxc h hO
 go_enter Tryz.func53,Tryz.ntmps53
 go_wp2_with fail
 refine (HPB.out _).mono ?_
 rintro e w2 ⟨v,rfl,hPR,hG2⟩
 have HG2:Hid (Grown w w2):=((Grown.refl w).alloc _).trans hG2
 have HPR:Hid (PR w2 v (backP r)):=hPR.grown HG2.out
 obtain ⟨pa,pc,rfl,_,_⟩:=hPR
 obtain ⟨l,hl⟩:∃ l,backP r=l:=⟨_,rfl⟩
 rw [hl] at HPR HL HR ⊢
 obtain ⟨nb,hnb⟩:∃ nb,l.length=nb:=⟨_,rfl⟩
 have HNB:Hid (l.length=nb):=hnb
 rw [hnb] at HPR HL ⊢
 have hnbI:(nb:Int)≤16:=by have:=HL.out;omega
 clear hnb hG2 HPB hl
 go_wp2
 go_loopw [4] (fun vi wr=>∃ (k:Nat),vi = .int .i64 k∧k≤nb∧Hid (wrg (l.take k) (l.drop k)=R)∧Grown w2 wr) (fun vi _=>nb - (intOf vi).toNat)
 case atStart=>exact ⟨0,rfl,by omega,HR,Grown.refl _⟩
 case round=>
  obtain ⟨k,rfl,hk,HW,hG⟩:=hrel
  clear HR
  have hk0:(0:Int)≤(k:Int):=by omega
  by_cases hlt:k<nb
  · have hlt':(k:Int)<(nb:Int):=by omega
    have hkb:k<l.length:=by rw [HNB.out];exact hlt
    obtain ⟨a',c',e',_,hPr⟩:=HPR.out
    obtain ⟨pg,po,ha',hPd⟩:=hPr.resolve_left (fun e=>by rw [e] at hkb;simp at hkb)
    injection e' with e1 e2 e3
    clear e2 e3
    rw [ha'] at e1
    subst e1
    obtain ⟨tv,x0,x1,x2,x3,_⟩:=hPd k hkb
    have HPD:Hid (∀ (j:Nat) (hj:j<l.length) (W:World),Grown w2 W→W.cell? ⟨pg,po+j*4,none⟩=some (.int .i64 l[j].k)∧W.cell? ⟨pg,po+j*4+2,none⟩=some (.int .i64 l[j].y)):=fun j hj W hW=>by
     obtain ⟨tv,q0,_,q2,_,_⟩:=hPd j hj
     exact ⟨hW.cellv q0,hW.cellv q2⟩
    have y0:=hG.cellv x0
    have y2:=hG.cellv x2
    have hst:=wrg_step hkb
    rw [HW.out] at hst
    obtain ⟨pk,hpk⟩:∃ pk,l[k].k=pk:=⟨_,rfl⟩
    obtain ⟨py,hpy⟩:∃ py,l[k].y=py:=⟨_,rfl⟩
    rw [hpk] at y0 hst
    rw [hpy] at y2 hst
    have HPY:Hid (l[k].k=pk∧l[k].y=py):=⟨hpk,hpy⟩
    clear hPr ha' hPd x0 x1 x2 x3 HW hpk hpy
    by_cases h2:pk=2
    · subst h2
      rw [if_neg (by simp)] at hst
      by_cases hy0:py=0
      · as_aux_lemma=>
         subst hy0
         have HF:Hid (R=true):=by show R=true;simpa using hst
         clear hst
         go_wp2
         go_ret
         have hrt:=HF.out
         exact ⟨by first | rfl | (rw [hrt];rfl),HG2.out.trans hG⟩
      · have hy0':(py == 0)=false:=by simpa using hy0
        have HST:Hid (R=if py=0∨((l.take k).any fun q=>decide (q.k=2) && decide (q.y=py))=true then true else wrg (l.take (k+1)) (l.drop (k+1))):=hst
        clear hst
        obtain ⟨wo,rfl⟩:∃ wo,wo=wr:=⟨_,rfl⟩
        have HGo:Hid (Grown w2 wo):=hG
        clear hG
        go_wp2
        go_loopw [5] (fun vj wx=>∃ j:Nat,vj = .int .i64 j∧j≤k∧Hid (((l.take j).any fun q=>decide (q.k=2) && decide (q.y=py))=false)∧Grown w2 wx) (fun vj _=>k - (intOf vj).toNat)
        case atStart=>exact ⟨0,rfl,by omega,by show _=false;simp,HGo.out⟩
        case round=>
         obtain ⟨j,rfl,hj,HA,hGx⟩:=hrel
         have hj0:(0:Int)≤(j:Int):=by omega
         by_cases hjk:j<k
         · have hjk':(j:Int)<(k:Int):=by omega
           have hjl:j<l.length:=by omega
           have hjn:(j:Int)<(nb:Int):=by omega
           obtain ⟨z0,z2⟩:=HPD.out j hjl wr hGx
           obtain ⟨_,k2⟩:=HPD.out k hkb wr hGx
           rw [HPY.out.2] at k2
           have han:=any_take hjl py
           rw [HA.out,Bool.false_or] at han
           obtain ⟨qk,hqk⟩:∃ qk,l[j].k=qk:=⟨_,rfl⟩
           obtain ⟨qy,hqy⟩:∃ qy,l[j].y=qy:=⟨_,rfl⟩
           rw [hqk] at z0 han
           rw [hqy] at z2 han
           clear hqk hqy HA y0 y2
           by_cases h1:qk=2
           · subst h1
             by_cases h3:qy=py
             · as_aux_lemma=>
                subst h3
                have HF:Hid (R=true):=by
                 show R=true
                 rw [HST.out,if_pos]
                 refine .inr ?_
                 rw [List.any_eq_true]
                 have:((l.take (j+1)).any fun q=>decide (q.k=2) && decide (q.y=qy))=true:=by rw [han];simp
                 rw [List.any_eq_true] at this
                 obtain ⟨q,hq,hq2⟩:=this
                 exact ⟨q,List.take_subset_take_left l (by omega) hq,hq2⟩
                clear han HST HPD HPY
                go_wp2
                go_quiet (fail)
                go_wp2
                go_ret
                have hrt:=HF.out
                exact ⟨by first | rfl | (rw [hrt];rfl),HG2.out.trans (hGx.drewN _)⟩
             · as_aux_lemma=>
                have h3':(qy == py)=false:=by simpa using h3
                have HF:Hid (((l.take (j+1)).any fun q=>decide (q.k=2) && decide (q.y=py))=false):=by show _=false;rw [han];simp [h3]
                clear han HST HPD HPY
                go_wp2
                go_quiet (fail)
                go_wp2
                exact ⟨⟨j+1,by go_num,by omega,HF,hGx.drewN _⟩,by simp [intOf];omega⟩
           · as_aux_lemma=>
              have h1':(qk == 2)=false:=by simpa using h1
              have HF:Hid (((l.take (j+1)).any fun q=>decide (q.k=2) && decide (q.y=py))=false):=by show _=false;rw [han];simp [h1]
              clear han HST HPD HPY
              go_wp2
              go_quiet (fail)
              go_wp2
              exact ⟨⟨j+1,by go_num,by omega,HF,hGx.drewN _⟩,by simp [intOf];omega⟩
         · as_aux_lemma=>
            have hge:¬ (j:Int)<(k:Int):=by omega
            have hjk2:j=k:=by omega
            have HF:Hid (wrg (l.take (k+1)) (l.drop (k+1))=R):=by
             have h1:=HST.out
             have h3:=HA.out
             rw [hjk2] at h3
             rw [if_neg (by rw [h3];simp [hy0])] at h1
             exact h1.symm
            clear HST HA
            go_wp2
            exact ⟨⟨k+1,by go_num,by omega,HF,hGx⟩,by simp [intOf];omega⟩
    · as_aux_lemma=>
       have h2':(pk != 2)=true:=by simpa using h2
       have HF:Hid (wrg (l.take (k+1)) (l.drop (k+1))=R):=by rw [if_pos h2] at hst;exact hst.symm
       clear hst
       go_wp2
       exact ⟨⟨k+1,by go_num,by omega,HF,hG⟩,by simp [intOf];omega⟩
  · as_aux_lemma=>
     have hge:¬ (k:Int)<(nb:Int):=by omega
     have HF:Hid (R=false):=by
      have:=HW.out
      rw [List.drop_eq_nil_of_le (by rw [HNB.out];omega),wrg] at this
      exact this.symm
     clear HW
     go_wp2
     go_ret
     have hrt:=HF.out
     exact ⟨by first | rfl | (rw [hrt];rfl),HG2.out.trans hG⟩
def fb1 (b:Pb) (u:Value):List Value:=[.int .i64 (b.r:Nat),u,.int .i64 b.wt]
def fbk:List Pb→List Value→List Value
 | b::l,u::us=>fb1 b u++fbk l us
 | _,_=>[]
theorem fbk_snoc:∀ (l:List Pb) (us:List Value) (b:Pb) (u:Value),us.length=l.length→fbk (l++[b]) (us++[u])=fbk l us++fb1 b u
 | [],[],b,u,_=>by simp [fbk]
 | [],_::_,_,_,h=>by simp at h
 | _::_,[],_,_,h=>by simp at h
 | c::l,v::us,b,u,h=>by
  have:=fbk_snoc l us b u (by simpa using h)
  simp only [List.cons_append,fbk,this,List.append_assoc]
theorem fbk_at:∀ (l:List Pb) (us:List Value) (j:Nat) (h:j<l.length) (h':j<us.length),(fbk l us)[j*3]? = some (.int .i64 (l[j].r:Nat))∧(fbk l us)[j*3+1]? = some us[j]∧(fbk l us)[j*3+2]? = some (.int .i64 l[j].wt)
 | [],_,j,h,_=>by simp at h
 | _::_,[],j,_,h=>by simp at h
 | b::l,u::us,0,_,_=>by simp [fbk,fb1]
 | b::l,u::us,j+1,h,h'=>by
  have:=fbk_at l us j (by simpa using h) (by simpa using h')
  rw [show (j+1)*3=j*3+3 by omega]
  simpa [fbk,fb1] using this
def BKo (W:World) (base:Nat) (v:Value) (bk:List Pb) (uvs:List Value):Prop:=uvs.length=bk.length∧W.ownsRow base 196 3 v bk.length (fbk bk uvs)
theorem BKo.bk {W:World} {base:Nat} {v:Value} {bk:List Pb} {uvs:List Value} (h:BKo W base v bk uvs):BK W base v bk uvs:=by
 obtain ⟨h0,h⟩:=h
 have hc := @World.ownsRow.cells
 rcases h.2 with ⟨rfl,h1⟩ | ⟨g,cap,cur,rfl,h1,h2,h3,_⟩
 · have hb:bk=[]:=List.eq_nil_of_length_eq_zero h1
   subst hb
   exact ⟨h0,none,0,rfl,Nat.le_refl _,.inl rfl⟩
 · refine ⟨h0,_,cap,rfl,h3,.inr ⟨g,cur,rfl,h1,h2,fun j hj hj' => ?_⟩⟩
   obtain ⟨a1,a2,a3⟩:=fbk_at bk uvs j hj hj'
   have b1:=World.ownsRow.cells h rfl _ _ a1
   have b2:=World.ownsRow.cells h rfl _ _ a2
   have b3:=World.ownsRow.cells h rfl _ _ a3
   rw [add_zero_at] at b1 b2 b3
   exact ⟨b1,b2,b3⟩
theorem BKo.turn {W W':World} {base B:Nat} {v:Value} {bk:List Pb} {uvs:List Value} {o:Obj} (h:BKo W base v bk uvs) (ho:W.heap[B]? = some o) (hn:∀ cs m,o ≠ .cells cs 196 m) (k:Turns B W W'):BKo W' base v bk uvs:=by
 refine ⟨h.1,h.2.1,?_⟩
 rcases h.2.2 with h | ⟨g,cap,cur,e1,h1,h2,h3⟩
 · exact .inl h
 · exact .inr ⟨g,cap,cur,e1,h1,(k g (ne_obj h2 ho (fun e=>hn cur _ e.symm))).trans h2,h3⟩
theorem BKo.below {W W':World} {base:Nat} {v:Value} {bk:List Pb} {uvs:List Value} (h:BKo W base v bk uvs) (hb:Below W.heap.size W W'):BKo W' base v bk uvs:=by
 refine ⟨h.1,h.2.1,?_⟩
 rcases h.2.2 with h | ⟨g,cap,cur,e1,h1,h2,h3⟩
 · exact .inl h
 · exact .inr ⟨g,cap,cur,e1,h1,(hb.block g (Array.getElem?_eq_some_iff.1 h2).1).trans h2,h3⟩
theorem BKo.row {W:World} {base:Nat} {v:Value} {bk:List Pb} {uvs:List Value} (h:BKo W base v bk uvs) {b:Nat} (hb:v.ownBlock=some b):base≤b∧∃ cs,W.heap[b]? = some (.cells cs 196 (0,0)):=by
 rcases h.2.2 with ⟨rfl,_⟩ | ⟨g,cap,cur,rfl,h1,h2,_⟩
 · simp [Value.ownBlock] at hb
 · simp [Value.ownBlock] at hb
   subst hb
   exact ⟨h1,cur,h2⟩
theorem UR.keep {W W':World} {base:Nat} {v:Value} {l:List (Int × Int)} (h:UR W base v l) (hk:∀ g,g<W.heap.size→(g<base∨∃ cs m,W.heap[g]? = some (.cells cs 67 m))→W'.heap[g]? = W.heap[g]?):UR W' base v l:=by
 obtain ⟨a,cap,h1,h2,h3⟩:=h
 refine ⟨a,cap,h1,h2,?_⟩
 by_cases hl:l=[]
 · exact .inl hl
 · obtain ⟨g,o,h4,h5,h6⟩:=h3.resolve_left hl
   have he:=hk g (h5.lt hl) h6
   refine .inr ⟨g,o,h4,fun j hj => ?_,h6.imp id fun ⟨cs,m,h6⟩=>⟨cs,m,he.trans h6⟩⟩
   rw [cell_same he,cell_same he]
   exact h5 j hj
section
variable {W W1 w0:World} {sp m1 ga m2 N1 N2:Nat} {bv:Value} {uvs:List Value} {rv:Value} {rs:List Rl} {st:St} {ln:Int→Option Value}
theorem Sc.turn5 (h:Sc W w0 sp m1 ga m2 N1 N2 bv uvs rv rs st (fun _=>none)) (ho:BKo W w0.heap.size bv st.bk uvs) {g cap n:Nat} {b:Pb} {uv:Value} (hn:st.bk.length=n) (hown:W1.ownsRow w0.heap.size 196 3 (.slice (some ⟨g,0,none⟩) (n+1) cap) (n+1) (fbk st.bk uvs++fb1 b uv)) (hgr:W.grownBy W1 bv.ownBlock) (hu:UR W w0.heap.size uv b.us) :
 Sc (W1.setCell ⟨sp,3,none⟩ (.slice (some ⟨g,0,none⟩) (n+1) cap)) w0 sp m1 ga m2 N1 N2 (.slice (some ⟨g,0,none⟩) (n+1) cap) (uvs++[uv]) rv rs ⟨st.ws,st.aq,st.bk++[b]⟩ (fun _=>none)∧BKo (W1.setCell ⟨sp,3,none⟩ (.slice (some ⟨g,0,none⟩) (n+1) cap)) w0.heap.size (.slice (some ⟨g,0,none⟩) (n+1) cap) (st.bk++[b]) (uvs++[uv])∧Below w0.heap.size W1 (W1.setCell ⟨sp,3,none⟩ (.slice (some ⟨g,0,none⟩) (n+1) cap)):=by
 have hk:∀ {x:Nat} {o:Obj},W.heap[x]? = some o→(∀ cs m,o ≠ .cells cs 196 m)→W1.heap[x]? = some o:=fun {x o} hx hne=>by
  refine (hgr.block x (Array.getElem?_eq_some_iff.1 hx).1 (fun e => ?_)).trans hx
  obtain ⟨_,cs,hc⟩:=ho.row e.symm
  rw [hx] at hc
  injection hc with hc
  exact hne _ _ hc
 have hB1:Below w0.heap.size W W1:=(Below.refl _ W).grown hgr h.bel.size (fun x hx=>(ho.row hx).1)
 have hblk:=hk h.blk (by simp)
 obtain ⟨es,c,ho1⟩:=h.wm.isMap
 obtain ⟨es2,c2,ho2⟩:=h.lnm.isMap
 have hk1:=hk ho1 (by simp)
 have hk2:=hk ho2 (by simp)
 have hka:=hk h.asb (by simp)
 have ht:=turns_set W1 sp 3 (.slice (some ⟨g,0,none⟩) (n+1) cap)
 have e1:m1≠sp:=ne_obj hk1 hblk (by simp)
 have e2:m2≠sp:=ne_obj hk2 hblk (by simp)
 have e3:ga≠sp:=ne_obj hka hblk (by simp)
 have hbl:(st.bk++[b]).length=n+1:=by simp [hn]
 have hBK1:BKo W1 w0.heap.size (.slice (some ⟨g,0,none⟩) (n+1) cap) (st.bk++[b]) (uvs++[uv]):=by
  refine ⟨by simp [ho.1],?_⟩
  rw [hbl,fbk_snoc _ _ _ _ ho.1]
  exact hown
 have hBK:=hBK1.turn hblk (by simp) ht
 have hur:∀ {v:Value} {l:List (Int × Int)},UR W w0.heap.size v l→UR (W1.setCell ⟨sp,3,none⟩ (.slice (some ⟨g,0,none⟩) (n+1) cap)) w0.heap.size v l:=fun {v l} hv=>by
  have h1:UR W1 w0.heap.size v l:=hv.keep (fun x hx hc=>by
   refine hgr.block x hx (fun e => ?_)
   obtain ⟨hb,cs,hcs⟩:=ho.row e.symm
   rcases hc with hc | ⟨cs',m,hc⟩
   · omega
   · rw [hc] at hcs;simp at hcs)
  exact h1.turn h.bsp hblk (by simp) ht
 refine ⟨⟨?_,(h.bel.trans hB1).setCell h.bsp _,h.rul,h.bsp,h.bm1,h.bga,h.bm2,h.m12,h.wm.kept (fun o hb=>(ht _ e1).trans (by rw [ho1] at hb;cases hb;exact hk1)),(ht _ e3).trans hka,hBK.bk,fun j hj hj' => ?_,h.lnm.kept (fun o hb=>(ht _ e2).trans (by rw [ho2] at hb;cases hb;exact hk2)),fun k v e=>by cases e⟩,hBK,(Below.refl _ _).setCell h.bsp _⟩
 · rw [set_heap hblk];simp
 · by_cases hlt:j<st.bk.length
   · rw [List.getElem_append_left hlt,List.getElem_append_left (by rw [ho.1];exact hlt)]
     exact hur (h.urs j hlt (by rw [ho.1];exact hlt))
   · have hje:j=st.bk.length:=by simp at hj;omega
     subst hje
     rw [List.getElem_append_right (Nat.le_refl _),List.getElem_append_right (by rw [ho.1];exact Nat.le_refl _)]
     simpa using hur hu
end
end Go.Proofs
