/-
  Several texts in one (B8 Pf B9 Ba).
-/
import Derived.RangeFuncNested
import Derived.RangeFuncBound
import Derived.RangeFuncCalls
import Derived.RangeFuncLeaves
import Derived.Shelf.Abstract
import Derived.Shelf.RegionOpen
import Derived.WalkKit
import Derived.WalkSpells
import Derived.WalkLawsBesides
import Derived.OwnWalkIn
import Derived.TacticsInMore
import Derived.LoopNIn
import Derived.LoopIn
import Derived.BigQuiet
import Derived.RegionIn
import Derived.Deep.QuietTactic
import Derived.Deep.RegionWith
import Derived.Lib.OthersKept
import Derived.Maps.AppendAt
import Derived.Lib.SmallJoins
import Derived.Shelf.SlSortCmp.QuietGrown
import Derived.RangeFuncWrites
import Derived.RangeFuncBox
import Derived.Maps.OwnIn
import Derived.Test.YtibgnkpagfpinaaGreatDoorMgst
import Derived.Deep.AppendLies
import Derived.Deep.RegionLaw
import Derived.Deep.DeepCutAuto
import Derived.Test.YtibgnkpagfpinaaGreatDoorMgpt
import Derived.Test.YtibgnkpagfpinaaGreatDoorMgot
import Derived.Test.YtibgnkpagfpinaaGreatDoorMgrt
import Derived.Test.YtibgnkpagfpinaaGreatDoorMgqt
namespace Go.Proofs
open Go.RowKit Go.Shelf
set_option maxRecDepth 100000
attribute [local go_sem] Oper.semAt_some
attribute [local go_sem ↓] Go.wp_at_zero Go.wp_at_succ
def Four (W:World) (g k:Nat) (a b c:Int):Prop:=
 (∃ y,W.cell? ⟨g,k*4,none⟩=some y)∧W.frozen? ⟨g,k*4,none⟩=false ∧
 (∃ y,(W.setCell ⟨g,k*4,none⟩ (.int .i64 a)).cell? ⟨g,k*4+1,none⟩=some y)∧(W.setCell ⟨g,k*4,none⟩ (.int .i64 a)).frozen? ⟨g,k*4+1,none⟩=false ∧
 (∃ y,((W.setCell ⟨g,k*4,none⟩ (.int .i64 a)).setCell ⟨g,k*4+1,none⟩ (.int .i64 b)).cell? ⟨g,k*4+2,none⟩=some y)∧((W.setCell ⟨g,k*4,none⟩ (.int .i64 a)).setCell ⟨g,k*4+1,none⟩ (.int .i64 b)).frozen? ⟨g,k*4+2,none⟩=false ∧
 (∃ y,(((W.setCell ⟨g,k*4,none⟩ (.int .i64 a)).setCell ⟨g,k*4+1,none⟩ (.int .i64 b)).setCell ⟨g,k*4+2,none⟩ (.int .i64 c)).cell? ⟨g,k*4+3,none⟩=some y)∧(((W.setCell ⟨g,k*4,none⟩ (.int .i64 a)).setCell ⟨g,k*4+1,none⟩ (.int .i64 b)).setCell ⟨g,k*4+2,none⟩ (.int .i64 c)).frozen? ⟨g,k*4+3,none⟩=false
theorem blk_cellB {W:World} {g k:Nat} {cur:Array Value} {t:TypeId} (h:W.heap[g]? = some (.cells cur t (0,0))) (hk:k<cur.size):(∃ y,W.cell? ⟨g,k,none⟩=some y)∧W.frozen? ⟨g,k,none⟩=false:=by
 refine ⟨⟨cur[k],?_⟩,by simp [World.frozen?,h]⟩
 simp only [World.cell?,h,Array.getElem?_eq_getElem hk]
 rfl
theorem set_blkB {W:World} {g j:Nat} {cur:Array Value} {t:TypeId} {u:Value} (h:W.heap[g]? = some (.cells cur t (0,0))):∃ cur',(W.setCell ⟨g,j,none⟩ u).heap[g]? = some (.cells cur' t (0,0))∧cur'.size=cur.size:=⟨_,cells_setS h,by simp⟩
theorem four_of {W:World} {g k:Nat} {cur:Array Value} {t:TypeId} (h:W.heap[g]? = some (.cells cur t (0,0))) (hk:k*4+3<cur.size) (a b c:Int):Four W g k a b c:=by
 obtain ⟨c1,h1,s1⟩:=set_blkB (j:=k*4) (u := .int .i64 a) h
 obtain ⟨c2,h2,s2⟩:=set_blkB (j:=k*4+1) (u := .int .i64 b) h1
 obtain ⟨c3,h3,s3⟩:=set_blkB (j:=k*4+2) (u := .int .i64 c) h2
 obtain ⟨x0,y0⟩:=blk_cellB h (k:=k*4) (by omega)
 obtain ⟨x1,y1⟩:=blk_cellB h1 (k:=k*4+1) (by omega)
 obtain ⟨x2,y2⟩:=blk_cellB h2 (k:=k*4+2) (by omega)
 obtain ⟨x3,y3⟩:=blk_cellB h3 (k:=k*4+3) (by omega)
 exact ⟨x0,y0,x1,y1,x2,y2,x3,y3⟩
theorem own_cur {W:World} {base g n c:Nat} {l:List Bk} (h:OwnK W base (.slice (some ⟨g,0,none⟩) n c) l):∃ cur,W.heap[g]? = some (.cells cur 44 (0,0))∧l.length*4≤cur.size:=by
 rcases h.2 with ⟨e,_⟩ | ⟨g',cap,cur,e,k1,k2,k3,k4,k5,k6⟩
 · cases e
 · injection e with e1 e2 e3
   injection e1 with e1
   injection e1 with e1
   subst e1
   exact ⟨cur,k2,by rw [k5];exact Nat.mul_le_mul_right _ k3⟩
theorem four {W:World} {base g n c:Nat} {l:List Bk} (h:OwnK W base (.slice (some ⟨g,0,none⟩) n c) l) {k:Nat} (hk:k<l.length) (a b d:Int):Four W g k a b d:=by
 obtain ⟨cur,h1,h2⟩:=own_cur h
 exact four_of h1 (by omega) a b d
theorem second4 {base hb:Nat} {ov wv:Value} {es:List BE} {f u n:Nat} {W:World} (h:Bok W base hb ov wv es f u n) {i k:Nat} {e:BE} (he:es[i]? = some e) (x:Bk) {go no co gw nw cw:Nat} (ho:e.o = .slice (some ⟨go,0,none⟩) no co) (hw:e.w = .slice (some ⟨gw,0,none⟩) nw cw) (hk:k<e.l.length) (a b d:Int) :
 (set4 W go (k*4) x).cell? ⟨hb,1,none⟩=some wv∧(∀ (g1:Nat),wv.ownBlock=some g1→∀ j,(set4 W go (k*4) x).cell? ⟨g1,j,none⟩=W.cell? ⟨g1,j,none⟩)∧Four (set4 W go (k*4) x) gw k a b d:=by
 have hm:=List.mem_of_getElem? he
 obtain ⟨h1,h2,_,_⟩:=second h he x ho hw hk
 refine ⟨h1,h2,?_⟩
 have hr:=h.rw e hm
 rw [hw] at hr
 obtain ⟨cur,k1,k2⟩:=own_cur hr
 have hne:gw≠go:=fun e1=>(h.aw i i e e gw he he (by rw [hw];rfl)).2 (by rw [ho,e1];rfl)
 exact four_of (cur:=cur) (t:=44) ((set4_other W go _ x gw hne).trans k1) (by omega) a b d
theorem kat_new (w:World) (b:Bk) (t:TypeId):KAt (w.alloc (.cells #[.int .i64 b.1,.int .i64 b.2.1,.int .i64 b.2.2.1,.int .i64 b.2.2.2] t)) w.heap.size 0 b:=by
 have:=heap_alloc_new w (.cells #[.int .i64 b.1,.int .i64 b.2.1,.int .i64 b.2.2.1,.int .i64 b.2.2.2] t)
 refine ⟨?_,?_,?_,?_⟩ <;> (simp only [World.cell?];rw [this];rfl)
set_option maxHeartbeats 8000000 in
theorem writeB_any (base hb:Nat) (ov wv:Value) (es:List BE) (f N:Nat) (w:World) (h:Bok w base hb ov wv es f f es.length) (hes:es.length≤40) (hN:N≤800000) (hsm:∀ e∈es,e.l.length≤N) :
 Calls Tryz.prog 9 #[.pointer (some ⟨hb,0,none⟩)] w fun e w'=>e = .returned (.bool true)∧∃ ov' wv' es',Bok w' base hb ov' wv' es' es'.length es'.length es'.length∧es'.length≤2*es.length∧(∀ e∈es',e.l.length≤N+30)∧Below base w w':=by
 obtain ⟨n,hnn⟩:∃ n,es.length=n:=⟨_,rfl⟩
 have HN:Hid (es.length=n):=hnn
 obtain ⟨oa,oc,rfl⟩:=row_nil h.out
 obtain ⟨wa,wc,rfl⟩:=row_nil h.want
 have HH:Hid (∀ W ov wv es f u t,Bok W base hb ov wv es f u t→Calls Tryz.prog 30 #[.pointer (some ⟨hb,0,none⟩)] W fun e w'=>e = .returned (.bool true)∧Grown W w'):=fun W ov wv es f u t k=>holds_any base hb ov wv es f u t W k
 have HB:Hid (Bok w base hb (.slice oa n oc) (.slice wa n wc) es f f n):=by rw [hnn] at h;exact h
 have HSM:Hid (∀ e∈es,e.l.length≤N):=hsm
 have HF:Hid (f≤n):=by have:=h.fr;rw [hnn] at this;exact this
 have hnI:(n:Int)≤40:=by omega
 have hfI:(f:Int)≤(n:Int):=by have:=HF.out;omega
 clear h hsm hnn
 go_enter Tryz.func9,Tryz.ntmps9
 go_wp2_with fail
 refine (HH.out w _ _ _ _ _ _ HB.out).mono ?_
 rintro e w3 ⟨rfl,hg3⟩
 have HB3:Hid (W1 w base hb (.slice oa n oc) (.slice wa n wc) es f n w3):=W1.grown ⟨⟨es,HB.out,Alike.refl _⟩,Below.refl _ _⟩ hg3
 have c0:w3.cell? ⟨hb,0,none⟩=some (.slice oa n oc):=(HB.out.grown hg3).cell.1
 have c2:w3.cell? ⟨hb,2,none⟩=some (.int .i64 f):=(HB.out.grown hg3).cell.2.2
 clear hg3
 go_wp2
 go_quiet (fail)
 go_wp2
 go_loopw [6] (fun vi wr=>∃ i:Nat,vi = .int .i64 i∧f≤i∧i≤n∧Hid (W1 w base hb (.slice oa n oc) (.slice wa n wc) es f n wr)) (fun vi _=>n - (intOf vi).toNat)
 case atStart=>exact ⟨f,rfl,Nat.le_refl _,HF.out,HB3.out.grown ((Grown.refl _).drewN _)⟩
 case round=>
  obtain ⟨i,rfl,hfi,hin,HW⟩:=hrel
  clear c0 c2 HB3
  have hpos:(0:Int)≤(i:Int):=by omega
  have hiI:(i:Int)≤40:=by omega
  by_cases hlt:i<n
  · as_aux_lemma=>
     have hlt':(i:Int)<(n:Int):=by omega
     obtain ⟨es',hB',hA'⟩:=HW.out.bk
     have hlen:es'.length=n:=hA'.len.trans HN.out
     have hn0:es'.length≠0:=by omega
     obtain ⟨g0,rfl,_,hoc,hoe⟩:=row_same hB'.out hn0
     obtain ⟨g1,rfl,_,hwc,hwe⟩:=row_same hB'.want hn0
     rw [hlen] at hoc hwc
     have hil:i<es'.length:=by omega
     obtain ⟨ei,hei⟩:∃ e,es'[i]? = some e:=⟨es'[i],by simp [hil]⟩
     have hmi:=List.mem_of_getElem? hei
     obtain ⟨ea,ec,heo⟩:=row_nilK (hB'.ro ei hmi)
     obtain ⟨fa,fc,hew⟩:=row_nilK (hB'.rw ei hmi)
     have c0:=hB'.cell.1
     have ci:wr.cell? ⟨g0,i,none⟩=some ei.o:=hoe i _ (by simp [hei])
     rw [heo] at ci
     have hLs:=hB'.sm ei hmi
     have HBel:Hid (Below base w wr):=HW.out.bel
     have HB2:Hid (W1 w base hb (.slice (some ⟨g0,0,none⟩) n oc) (.slice (some ⟨g1,0,none⟩) n wc) es' f n wr):=⟨⟨es',hB',Alike.refl _⟩,HW.out.bel⟩
     have HA:Hid (Alike es es'):=hA'
     have HFI:Hid (f≤i∧i<n):=⟨hfi,hlt⟩
     obtain ⟨L,hL⟩:∃ L,ei.l.length=L:=⟨_,rfl⟩
     rw [hL] at hLs ci heo hew
     have HL:Hid (ei.l.length=L∧ei.o = .slice ea L ec∧ei.w = .slice fa L fc∧es'[i]? = some ei):=⟨hL,heo,hew,hei⟩
     have hLI:(L:Int)≤2000000:=by omega
     clear hB' hA' hlen hn0 hoe hwe hil hei hmi heo hew hL HW
     go_wp2
     go_loopw [36] (fun vk wr2=>∃ k:Nat,vk = .int .i64 k∧k≤L∧Hid (W1 w base hb (.slice (some ⟨g0,0,none⟩) n oc) (.slice (some ⟨g1,0,none⟩) n wc) es' f n wr2)) (fun vk _=>L - (intOf vk).toNat)
     case atStart=>exact ⟨0,rfl,Nat.zero_le _,HB2⟩
     case round=>
      obtain ⟨k,rfl,hk,HW⟩:=hrel
      clear c0 ci HB2 HBel
      have hkp:(0:Int)≤(k:Int):=by omega
      by_cases hkl:k<L
      · as_aux_lemma=>
         have hkl':(k:Int)<(L:Int):=by omega
         obtain ⟨es2,hB2,hA2⟩:=HW.out.bk
         obtain ⟨hL,heo,hew,hei⟩:=HL.out
         obtain ⟨e2,he2,eo,ew,el⟩:=hA2.at hei
         have hm2:=List.mem_of_getElem? he2
         have hL2:e2.l.length=L:=el.trans hL
         have h1:=hB2.ro e2 hm2
         rw [eo,heo] at h1
         have h2:=hB2.rw e2 hm2
         rw [ew,hew] at h2
         obtain ⟨ga,rfl,_,hca⟩:=row_sameK h1 (by omega)
         obtain ⟨gw,rfl,_,hcw⟩:=row_sameK h2 (by omega)
         rw [hL2] at hca hcw
         obtain ⟨q0,q1,q2,q3,q4,q5,q6,q7⟩:=four h1 (k:=k) (by omega) (-3) (i:Int) 0
         have c0:=hB2.cell.1
         have ho2:es2.length≠0:=by have:=(List.getElem?_eq_some_iff.1 he2).1;omega
         have ci:wr.cell? ⟨g0,i,none⟩=some (.slice (some ⟨ga,0,none⟩) L ec):=by
          obtain ⟨g,e,_,_,hoe⟩:=row_same hB2.out ho2
          injection e with e
          injection e with e
          subst e
          rw [hoe i e2.o (by simp [he2]),eo,heo]
         have di:wr.cell? ⟨g1,i,none⟩=some (.slice (some ⟨gw,0,none⟩) L fc):=by
          obtain ⟨g,e,_,_,hoe⟩:=row_same hB2.want ho2
          injection e with e
          injection e with e
          subst e
          rw [hoe i e2.w (by simp [he2]),ew,hew]
         have HSec:Hid ((set4 wr ga (k*4) (-3,(i:Int),0,0)).cell? ⟨hb,1,none⟩=some (.slice (some ⟨g1,0,none⟩) n wc)∧(set4 wr ga (k*4) (-3,(i:Int),0,0)).cell? ⟨g1,i,none⟩=some (.slice (some ⟨gw,0,none⟩) L fc)∧Four (set4 wr ga (k*4) (-3,(i:Int),0,0)) gw k (-3) (i:Int) 0):=by
          obtain ⟨a1,a2,a3⟩:=second4 hB2 he2 (k:=k) (-3,(i:Int),0,0) (eo.trans heo) (ew.trans hew) (by omega) (-3) (i:Int) 0
          exact ⟨a1,(a2 g1 rfl i).trans di,a3⟩
         have HMk:Hid (W1 w base hb (.slice (some ⟨g0,0,none⟩) n oc) (.slice (some ⟨g1,0,none⟩) n wc) es' f n (set4 (set4 wr ga (k*4) (-3,(i:Int),0,0)) gw (k*4) (-3,(i:Int),0,0))):=W1.mark hB2 hA2 HW.out.bel he2 HFI.out.1 HFI.out.2 _ (eo.trans heo) (ew.trans hew)
         obtain ⟨⟨y0,u0⟩,v0,⟨y1,u1⟩,v1,⟨y2,u2⟩,v2,⟨y3,u3⟩,v3⟩:=(⟨q0,q1,q2,q3,q4,q5,q6,q7⟩:Four wr ga k (-3) (i:Int) 0)
         clear q0 q1 q2 q3 q4 q5 q6 q7 hB2 hA2 hL heo hew hei he2 eo ew el hm2 hL2 h1 h2 ho2 di HW HL HA
         go_upto_region 10 with fail
         obtain ⟨w5,hw5⟩:∃ w5,w5=set4 wr ga (k*4) (-3,(i:Int),0,0):=⟨_,rfl⟩
         have hw5':w5=(((wr.setCell ⟨ga,k*4,none⟩ (.int .i64 (-3))).setCell ⟨ga,k*4+1,none⟩ (.int .i64 (i:Int))).setCell ⟨ga,k*4+2,none⟩ (.int .i64 0)).setCell ⟨ga,k*4+3,none⟩ (.int .i64 0):=hw5
         rw [←hw5] at HSec HMk
         rw [←hw5']
         clear hw5 hw5' u0 v0 u1 v1 u2 v2 u3 v3 y0 y1 y2 y3 c0 ci
         obtain ⟨d1,d2,⟨z0,u0⟩,v0,⟨z1,u1⟩,v1,⟨z2,u2⟩,v2,⟨z3,u3⟩,v3⟩:=HSec.out
         clear HSec
         go_wp2
         exact ⟨⟨k+1,by go_num,by omega,HMk⟩,by simp [intOf];omega⟩
      · as_aux_lemma=>
         have hge:¬ (k:Int)<(L:Int):=by omega
         have HX:Hid (W1 w base hb (.slice (some ⟨g0,0,none⟩) n oc) (.slice (some ⟨g1,0,none⟩) n wc) es f n wr):=by
          obtain ⟨es2,h1,h2⟩:=HW.out.bk
          exact ⟨⟨es2,h1,HA.out.trans h2⟩,HW.out.bel⟩
         clear HW HL HA
         go_wp2
         exact ⟨⟨i+1,by go_num,by omega,by omega,HX⟩,by simp [intOf];omega⟩
  · obtain rfl:i=n:=by omega
    have HX:Hid (W2 w base hb f i N f wr):=HW.out.w2 HN.out HSM.out
    have hge:¬ (i:Int)<(i:Int):=by omega
    clear HW HSM hfi hin hpos hlt HB
    obtain ⟨n,hnn⟩:∃ n,n=i:=⟨_,rfl⟩
    go_wp2
    subst hnn
    go_loopw [8] (fun vi wr=>∃ i:Nat,vi = .int .i64 i∧f≤i∧i≤n∧Hid (W2 w base hb f n N i wr)) (fun vi _=>n - (intOf vi).toNat)
    case atStart=>exact ⟨f,rfl,Nat.le_refl _,HF.out,HX⟩
    case round=>
     obtain ⟨i,rfl,hfi,hin,HW⟩:=hrel
     clear HX hge
     have hpos:(0:Int)≤(i:Int):=by omega
     have hiJ:(i:Int)≤40:=by omega
     by_cases hlt:i<n
     · as_aux_lemma=>
        have hlt':(i:Int)<(n:Int):=by omega
        obtain ⟨ov2,wv2,es2,hB2,hl2,hs2,ht2,hb2⟩:=HW.out
        have hil:i<es2.length:=by omega
        have hm0:es2.length≠0:=by omega
        obtain ⟨ei,hei⟩:∃ e,es2[i]? = some e:=⟨es2[i],by simp [hil]⟩
        have hmi:=List.mem_of_getElem? hei
        obtain ⟨oa2,oc2,rfl⟩:=row_nil hB2.out
        obtain ⟨wa2,wc2,rfl⟩:=row_nil hB2.want
        obtain ⟨g0,rfl,_,hoc,hoe⟩:=row_same hB2.out hm0
        obtain ⟨g1,rfl,_,hwc,hwe⟩:=row_same hB2.want hm0
        obtain ⟨ea,ec,heo⟩:=row_nilK (hB2.ro ei hmi)
        obtain ⟨fa,fc,hew⟩:=row_nilK (hB2.rw ei hmi)
        have hLN:=hs2 i ei hlt hei
        have ci:wr.cell? ⟨g0,i,none⟩=some ei.o:=hoe i _ (by simp [hei])
        have di:wr.cell? ⟨g1,i,none⟩=some ei.w:=hwe i _ (by simp [hei])
        have hiw:=(hB2.rw ei hmi).kr
        have hoo:=hB2.ro ei hmi
        rw [heo] at ci hoo
        rw [hew] at di hiw
        obtain ⟨L,hL⟩:∃ L,ei.l.length=L:=⟨_,rfl⟩
        obtain ⟨m,hm⟩:∃ m,es2.length=m:=⟨_,rfl⟩
        have c0:=hB2.cell.1
        have c1:=hB2.cell.2.1
        rw [hL] at ci di hoo hiw hLN
        rw [hm] at c0 c1 hB2 hoc hwc
        have HM:Hid (es2.length=m∧m=n+(i - f)∧ei.l.length=L∧L≤N):=⟨hm,by omega,hL,hLN⟩
        have him:(i:Int)<(m:Int):=by omega
        have hmI:(m:Int)≤80:=by have:=HN.out;omega
        have hmN:m≤2000000:=by omega
        have HR15:Hid (wr.cell? ⟨hb,0,none⟩=some (.slice (some ⟨g0,0,none⟩) m oc2)∧wr.cell? ⟨g0,i,none⟩=some (.slice ea L ec)∧wr.cell? ⟨hb,1,none⟩=some (.slice (some ⟨g1,0,none⟩) m wc2)∧wr.cell? ⟨g1,i,none⟩=some (.slice fa L fc)∧KR wr (.slice fa L fc) ei.l∧ei.l.length≤N):=⟨c0,ci,c1,di,hiw,by omega⟩
        have HB2:Hid (Bok wr base hb (.slice (some ⟨g0,0,none⟩) m oc2) (.slice (some ⟨g1,0,none⟩) m wc2) es2 f i n∧(es2[i]? = some ei∧ei.o = .slice ea L ec)∧OwnK wr base (.slice ea L ec) ei.l∧(∀ (j:Nat) (e:BE),j<n→es2[j]? = some e→e.l.length≤N)∧(∀ e∈es2,e.l.length≤N+30)∧Below base w wr):=⟨hB2,⟨hei,by rw [heo,hL]⟩,hoo,hs2,ht2,hb2⟩
        clear hB2 hl2 hs2 ht2 hb2 hil hm0 hei hmi hoe hwe heo hew hLN ci di hiw hoo c0 c1 hL hm HW
        go_upto_region 15 with fail
        rename_i Kx hKx
        refine wp_region_grows (by kernel_rfl) (by kernel_rfl) (by kernel_rfl) (by kernel_rfl) (I15 wr hb g0 g1 i (.slice (some ⟨g0,0,none⟩) m oc2) (.slice (some ⟨g1,0,none⟩) m wc2) (.slice ea L ec) (.slice fa L fc) ei.l) (fun j v a b h he=>I15.ext j v a b h he) ⟨?_,?_,?_,?_,?_,?_,?_,?_,?_,?_,?_,?_,?_,?_,?_,?_,?_,trivial⟩ ?_
        · as_aux_lemma=>
           intro a wx hE hval hfr K hK
           have d:a.tmps.getD 0 undef=(.pointer (some ⟨hb,0,none⟩)):=hfr 0 (by kernel_rfl)
           exact step_value (v:=(.pointer (some ⟨hb,0,none⟩))) (w':=wx) rfl (fun _ _ h=>by cases h) (rho [(0,(.pointer (some ⟨hb,0,none⟩)))]) (rho_of (by intro q hm;simp only [List.mem_cons,List.not_mem_nil,or_false] at hm;rcases hm with rfl;exact d) (by kernel_rfl)) (by kernel_rfl) (hK _ _ (Below.refl _ _) rfl)
        · as_aux_lemma=>
           intro a wx hE hval hfr K hK
           have d0:a.tmps.getD 68 undef = .pointer (some ⟨hb,0,none⟩):=hval 0 (by kernel_rfl) _ 68 (by rfl) rfl
           have hKK:=fun v h=>hK v wx (Below.refl _ _) h
           clear hval hfr hE hK HR15
           simp only [Array.getD_eq_getD_getElem?] at d0
           go_simp
           exact hKK _ rfl
        · as_aux_lemma=>
           intro a wx hE hval hfr K hK
           have d0:a.tmps.getD 69 undef = .pointer (some ⟨hb,0,none⟩):=hval 1 (by kernel_rfl) _ 69 (by rfl) rfl
           have hKK:=fun v h=>hK v wx (Below.refl _ _) h
           clear hval hfr hE hK HR15
           simp only [Array.getD_eq_getD_getElem?] at d0
           go_simp
           exact hKK _ rfl
        · as_aux_lemma=>
           intro a wx hE hval hfr K hK
           have d0:a.tmps.getD 70 undef = .pointer (some ⟨hb,0,none⟩):=hval 2 (by kernel_rfl) _ 70 (by rfl) rfl
           have hc:wx.cell? ⟨hb,0,none⟩=some (.slice (some ⟨g0,0,none⟩) m oc2):=cell_below HR15.out.1 hE (Nat.le_refl _)
           have hKK:=fun v h=>hK v wx (Below.refl _ _) h
           clear hval hfr hE hK HR15
           simp only [Array.getD_eq_getD_getElem?] at d0
           go_simp
           exact hKK _ rfl
        · as_aux_lemma=>
           intro a wx hE hval hfr K hK
           have d:a.tmps.getD 8 undef=(.int .i64 (i:Int)):=hfr 8 (by kernel_rfl)
           exact step_value (v:=(.int .i64 (i:Int))) (w':=wx) rfl (fun _ _ h=>by cases h) (rho [(8,(.int .i64 (i:Int)))]) (rho_of (by intro q hm;simp only [List.mem_cons,List.not_mem_nil,or_false] at hm;rcases hm with rfl;exact d) (by kernel_rfl)) (by kernel_rfl) (hK _ _ (Below.refl _ _) rfl)
        · as_aux_lemma=>
           intro a wx hE hval hfr K hK
           have d0:a.tmps.getD 71 undef = .slice (some ⟨g0,0,none⟩) m oc2:=hval 3 (by kernel_rfl) _ 71 (by rfl) rfl
           have d1:a.tmps.getD 72 undef = .int .i64 (i:Int):=hval 4 (by kernel_rfl) _ 72 (by rfl) rfl
           have hKK:=fun v h=>hK v wx (Below.refl _ _) h
           clear hval hfr hE hK HR15
           simp only [Array.getD_eq_getD_getElem?] at d0
           simp only [Array.getD_eq_getD_getElem?] at d1
           go_simp
           exact hKK _ rfl
        · as_aux_lemma=>
           intro a wx hE hval hfr K hK
           have d0:a.tmps.getD 73 undef = .pointer (some ⟨g0,i,none⟩):=hval 5 (by kernel_rfl) _ 73 (by rfl) rfl
           have hc:wx.cell? ⟨g0,i,none⟩=some (.slice ea L ec):=cell_below HR15.out.2.1 hE (Nat.le_refl _)
           have hKK:=fun v h=>hK v wx (Below.refl _ _) h
           clear hval hfr hE hK HR15
           simp only [Array.getD_eq_getD_getElem?] at d0
           go_simp
           exact hKK _ rfl
        · as_aux_lemma=>
           intro a wx hE hval hfr K hK
           have d:a.tmps.getD 0 undef=(.pointer (some ⟨hb,0,none⟩)):=hfr 0 (by kernel_rfl)
           exact step_value (v:=(.pointer (some ⟨hb,0,none⟩))) (w':=wx) rfl (fun _ _ h=>by cases h) (rho [(0,(.pointer (some ⟨hb,0,none⟩)))]) (rho_of (by intro q hm;simp only [List.mem_cons,List.not_mem_nil,or_false] at hm;rcases hm with rfl;exact d) (by kernel_rfl)) (by kernel_rfl) (hK _ _ (Below.refl _ _) rfl)
        · as_aux_lemma=>
           intro a wx hE hval hfr K hK
           have d0:a.tmps.getD 75 undef = .pointer (some ⟨hb,0,none⟩):=hval 7 (by kernel_rfl) _ 75 (by rfl) rfl
           have hKK:=fun v h=>hK v wx (Below.refl _ _) h
           clear hval hfr hE hK HR15
           simp only [Array.getD_eq_getD_getElem?] at d0
           go_simp
           exact hKK _ rfl
        · as_aux_lemma=>
           intro a wx hE hval hfr K hK
           have d0:a.tmps.getD 76 undef = .pointer (some ⟨hb,0,none⟩):=hval 8 (by kernel_rfl) _ 76 (by rfl) rfl
           have hKK:=fun v h=>hK v wx (Below.refl _ _) h
           clear hval hfr hE hK HR15
           simp only [Array.getD_eq_getD_getElem?] at d0
           go_simp
           exact hKK _ rfl
        · as_aux_lemma=>
           intro a wx hE hval hfr K hK
           have d0:a.tmps.getD 77 undef = .pointer (some ⟨hb,1,none⟩):=hval 9 (by kernel_rfl) _ 77 (by rfl) rfl
           have hc:wx.cell? ⟨hb,1,none⟩=some (.slice (some ⟨g1,0,none⟩) m wc2):=cell_below HR15.out.2.2.1 hE (Nat.le_refl _)
           have hKK:=fun v h=>hK v wx (Below.refl _ _) h
           clear hval hfr hE hK HR15
           simp only [Array.getD_eq_getD_getElem?] at d0
           go_simp
           exact hKK _ rfl
        · as_aux_lemma=>
           intro a wx hE hval hfr K hK
           have d:a.tmps.getD 8 undef=(.int .i64 (i:Int)):=hfr 8 (by kernel_rfl)
           exact step_value (v:=(.int .i64 (i:Int))) (w':=wx) rfl (fun _ _ h=>by cases h) (rho [(8,(.int .i64 (i:Int)))]) (rho_of (by intro q hm;simp only [List.mem_cons,List.not_mem_nil,or_false] at hm;rcases hm with rfl;exact d) (by kernel_rfl)) (by kernel_rfl) (hK _ _ (Below.refl _ _) rfl)
        · as_aux_lemma=>
           intro a wx hE hval hfr K hK
           have d0:a.tmps.getD 78 undef = .slice (some ⟨g1,0,none⟩) m wc2:=hval 10 (by kernel_rfl) _ 78 (by rfl) rfl
           have d1:a.tmps.getD 79 undef = .int .i64 (i:Int):=hval 11 (by kernel_rfl) _ 79 (by rfl) rfl
           have hKK:=fun v h=>hK v wx (Below.refl _ _) h
           clear hval hfr hE hK HR15
           simp only [Array.getD_eq_getD_getElem?] at d0
           simp only [Array.getD_eq_getD_getElem?] at d1
           go_simp
           exact hKK _ rfl
        · as_aux_lemma=>
           intro a wx hE hval hfr K hK
           have d0:a.tmps.getD 80 undef = .pointer (some ⟨g1,i,none⟩):=hval 12 (by kernel_rfl) _ 80 (by rfl) rfl
           have hc:wx.cell? ⟨g1,i,none⟩=some (.slice fa L fc):=cell_below HR15.out.2.2.2.1 hE (Nat.le_refl _)
           have hKK:=fun v h=>hK v wx (Below.refl _ _) h
           clear hval hfr hE hK HR15
           simp only [Array.getD_eq_getD_getElem?] at d0
           go_simp
           exact hKK _ rfl
        · as_aux_lemma=>
           intro a wx hE hval hfr K hK
           have d:a.eval (.tmp 81) = .slice fa L fc:=hval 13 (by kernel_rfl) _ 81 (by rfl) rfl
           refine step_copyI rfl _ rfl _ ei.l d (HR15.out.2.2.2.2.1.below hE (Nat.le_refl _)) (by have:=HR15.out.2.2.2.2.2;omega) ?_
           intro v' w' h1 h2
           exact hK _ _ h2 (OwnK.le h1 hE.size)
        · as_aux_lemma=>
           intro a wx hE hval hfr K hK
           have d:a.tmps.getD 74 undef = .slice ea L ec:=hval 6 (by kernel_rfl) _ 74 (by rfl) rfl
           exact step_value (v := .slice ea L ec) (w':=wx) rfl (fun _ _ h=>by cases h) (rho [(74,.slice ea L ec)]) (rho_of (by intro q hm;simp only [List.mem_cons,List.not_mem_nil,or_false] at hm;rcases hm with rfl;exact d) (by kernel_rfl)) (by kernel_rfl) (hK _ _ (Below.refl _ _) rfl)
        · as_aux_lemma=>
           intro a wx hE hval hfr K hK
           have d:OwnK wx wr.heap.size (a.tmps.getD 82 undef) ei.l:=hval 14 (by kernel_rfl) _ 82 (by rfl) rfl
           obtain ⟨v,hv⟩:∃ v,a.tmps.getD 82 undef=v:=⟨_,rfl⟩
           rw [hv] at d
           exact step_value (v:=v) (w':=wx) rfl (fun _ _ h=>by cases h) (rho [(82,v)]) (rho_of (by intro q hm;simp only [List.mem_cons,List.not_mem_nil,or_false] at hm;rcases hm with rfl;exact hv) (by kernel_rfl)) (by kernel_rfl) (hK _ _ (Below.refl _ _) d)
        · intro vs w5 hE hv
          have h15:vs 15 = .slice ea L ec:=hv 15 (by decide)
          have h16:OwnK w5 wr.heap.size (vs 16) ei.l:=hv 16 (by decide)
          obtain ⟨ma,mc,hmv⟩:=row_nilK h16
          rw [HM.out.2.2.1] at hmv
          have HT:Hid (T30 w base hb (.slice (some ⟨g0,0,none⟩) m oc2) (.slice (some ⟨g1,0,none⟩) m wc2) es2 f n i L (.slice ea L ec) (.slice ma L mc) 0 w5):=by
           obtain ⟨b1,b2,b3,_,_,b6⟩:=HB2.out
           rw [hmv] at h16
           refine ⟨ei.l,⟨b1.below hE (Nat.le_refl _),b3.below hE (Nat.le_refl _),h16.le b1.bz,?_,fun b hb' => ?_,Nat.le_refl _,hlt⟩,HM.out.2.2.1,b6.trans (hE.mono b1.bz)⟩
           · rcases b3.2 with ⟨e,_⟩ | ⟨g,cap,cur,e,_⟩
             · exact .inl fun b hb'=>by rw [e] at hb';cases hb'
             · exact .inr ⟨ei,g,_,_,cap,b2.1,b2.2.trans e,e,Nat.le_refl _⟩
           have h1:=(row_typ h16 hb').1
           exact ⟨blks_size b1 h1,fun e=>by have:=(World.ownsRow.lt b3 b e).2;omega⟩
          have HS2:Hid ((∀ (j:Nat) (e:BE),j<n→es2[j]? = some e→e.l.length≤N)∧∀ e∈es2,e.l.length≤N+30):=⟨HB2.out.2.2.2.1,HB2.out.2.2.2.2.1⟩
          rw [putL_eq]
          simp only [putsL,List.set_cons_zero,List.set_cons_succ,Nat.zero_add,Nat.reduceAdd]
          rw [h15,hmv]
          clear h15 h16 hmv hv hE HB2 HR15
          generalize vs 0=y0
          generalize vs 1=y1
          generalize vs 2=y2
          generalize vs 3=y3
          generalize vs 4=y4
          generalize vs 5=y5
          generalize vs 6=y6
          generalize vs 7=y7
          generalize vs 8=y8
          generalize vs 9=y9
          generalize vs 10=y10
          generalize vs 11=y11
          generalize vs 12=y12
          generalize vs 13=y13
          generalize vs 14=y14
          clear vs
          refine hKx _ _ ?_
          clear hKx
          go_wp2
          go_loopw [9,10,83] (fun sl sm vk wr=>∃ (lv mv:Value) (k:Nat),lv=sl∧mv=sm∧vk = .int .i64 k∧k≤30∧Hid (T30 w base hb (.slice (some ⟨g0,0,none⟩) m oc2) (.slice (some ⟨g1,0,none⟩) m wc2) es2 f n i L lv mv k wr)) (fun _ _ vk _=>30 - (intOf vk).toNat)
          case atStart=>exact ⟨_,_,0,rfl,rfl,rfl,by omega,HT⟩
          case round=>
           obtain ⟨lv,mv,k,rfl,rfl,rfl,hk,HW⟩:=hrel
           clear HT
           have hkp:(0:Int)≤(k:Int):=by omega
           by_cases hk30:k<30
           · as_aux_lemma=>
              have hkI:(k:Int)<30:=by omega
              obtain ⟨ll,hR,hll,hbl⟩:=HW.out
              obtain ⟨la,lc,rfl⟩:=row_nilK hR.lo
              obtain ⟨mma,mmc,rfl⟩:=row_nilK hR.mo
              have HR:=Hid.mk2 hR
              have HLL:Hid (ll.length=L+k∧Below base w wr∧base≤wr.heap.size):=⟨hll,hbl,hR.bk.bz⟩
              have hl3:ll.length≤3000000:=by have:=HM.out;omega
              clear hR hll hbl HW
              generalize (ll.length)=q at HR ⊢
              go_upto_region 19 with (at_builtin;go_must (refine push_L30 rfl _ _ rfl rfl (HR.out.grown ((Grown.refl _).alloc _)) _ _ (-4,(i:Int),0,0) rfl (kat_new _ (-4,(i:Int),0,0) _) hl3 ?_;intro v1 w1 hR1 hB1 hs1;have HR1:=Hid.mk2 hR1;have HB1:=Hid.mk2 (((Below.refl _ wr).alloc HLL.out.2.2 _).trans hB1);obtain ⟨t1,t2,t3,ht1⟩:=hs1;subst ht1;clear hR1 hB1))
              have hz1:base≤w1.heap.size:=HR1.out.bk.bz
              clear HR
              go_upto_region 20 with (at_builtin;go_must (refine push_M30 rfl _ _ rfl rfl (HR1.out.grown ((Grown.refl _).alloc _)) _ _ (-4,(i:Int),0,0) rfl (kat_new _ (-4,(i:Int),0,0) _) hl3 ?_;intro v2 w2 hR2 hB2 hs2;have HR2:=Hid.mk2 hR2;have HB2:=Hid.mk2 (((Below.refl _ w1).alloc hz1 _).trans hB2);obtain ⟨u1,u2,u3,ht2⟩:=hs2;subst ht2;clear hR2 hB2))
              have HF:Hid (T30 w base hb (.slice (some ⟨g0,0,none⟩) m oc2) (.slice (some ⟨g1,0,none⟩) m wc2) es2 f n i L (.slice t1 t2 t3) (.slice u1 u2 u3) (k+1) w2):=by
               refine ⟨ll++[(-4,(i:Int),0,0)],?_,?_,HLL.out.2.1.trans (HB1.out.trans HB2.out)⟩
               · have:=HR2.out
                 simpa using this
               · have:=HLL.out.1
                 simp
                 omega
              clear HR1 HR2 HB1 HB2 HLL
              go_wp2
              exact ⟨⟨_,_,k+1,rfl,rfl,by go_num,by omega,HF⟩,by simp [intOf];omega⟩
           · as_aux_lemma=>
              obtain rfl:k=30:=by omega
              obtain ⟨ll,hR,hll,hbl⟩:=HW.out
              obtain ⟨la,lc,rfl⟩:=row_nilK hR.lo
              obtain ⟨mma,mmc,rfl⟩:=row_nilK hR.mo
              obtain ⟨q,hq⟩:∃ q,ll.length=q:=⟨_,rfl⟩
              have hqL:q=L+30:=by omega
              have hlq:ll.length≤N+30:=by have:=HM.out;omega
              rw [hq] at hR
              have hR':R30 wr base hb (.slice (some ⟨g0,0,none⟩) m oc2) (.slice (some ⟨g1,0,none⟩) m wc2) es2 f i n i (.slice la q lc) ll (.slice mma q mmc) ll:=hR
              have hB0:=hR'.bk
              have c0:=hB0.cell.1
              have HO:Hid (∀ ob,(wr.alloc ob).ownsRow base 32 1 (.slice (some ⟨g0,0,none⟩) m oc2) m (es2.map BE.o)∧base≤(wr.alloc ob).heap.size):=fun ob=>by
               have:=hB0.out
               rw [HM.out.1] at this
               exact ⟨World.ownsRow.alloc this ob,by have h1:(wr.alloc ob).heap.size=wr.heap.size+1:=Array.size_push _;have h2:=hB0.bz;omega⟩
              have HK1:Hid (∀ (g c:Nat) (ob:Obj) (w5:World),w5.ownsRow base 32 1 (.slice (some ⟨g,0,none⟩) (m+1) c) (m+1) (es2.map BE.o++[(.slice la q lc)])→(wr.alloc ob).grownBy w5 (Value.ownBlock (.slice (some ⟨g0,0,none⟩) m oc2))→(Value.ownBlock (.slice (some ⟨g0,0,none⟩) m oc2)=some g∨g=(wr.alloc ob).heap.size)→w5.heap[hb]? = some (.cells #[(.slice (some ⟨g0,0,none⟩) m oc2),(.slice (some ⟨g1,0,none⟩) m wc2),.int .i64 f] 29 (0,0))∧K1 wr base hb (.slice (some ⟨g0,0,none⟩) m oc2) (.slice (some ⟨g1,0,none⟩) m wc2) es2 f (.slice la q lc) ll (.slice (some ⟨g,0,none⟩) (m+1) c) (w5.setCell ⟨hb,0,none⟩ (.slice (some ⟨g,0,none⟩) (m+1) c))):=fun g c ob w5 a b d=>by
               have:=k1_of (l:=ll) (lv:=(.slice la q lc)) hB0 (g:=g) (c:=c) (ob:=ob) (w5:=w5)
               rw [HM.out.1] at this
               exact this a b d
              have HDn:Hid (∀ (ov':Value) (w6:World) (g c:Nat) (ob:Obj) (W3:World),K1 wr base hb (.slice (some ⟨g0,0,none⟩) m oc2) (.slice (some ⟨g1,0,none⟩) m wc2) es2 f (.slice la q lc) ll ov' w6→W3.ownsRow base 32 1 (.slice (some ⟨g,0,none⟩) (m+1) c) (m+1) (es2.map BE.w++[(.slice mma q mmc)])→(w6.alloc ob).grownBy W3 (Value.ownBlock (.slice (some ⟨g1,0,none⟩) m wc2))→(Value.ownBlock (.slice (some ⟨g1,0,none⟩) m wc2)=some g∨g=(w6.alloc ob).heap.size)→W3.heap[hb]? = some (.cells #[ov',(.slice (some ⟨g1,0,none⟩) m wc2),.int .i64 f] 29 (0,0))∧W2 w base hb f n N (i+1) (W3.setCell ⟨hb,1,none⟩ (.slice (some ⟨g,0,none⟩) (m+1) c))):=fun ov' w6 g c ob W3 k1 a b d=>by
               have hm:=HM.out
               have hd:=R30.done (ob:=ob) (g:=g) (c:=c) (W3:=W3) hR' (by omega) (by omega) (by omega) k1
               rw [hm.1] at hd
               obtain ⟨z1,z2,z3⟩:=hd a b d
               refine ⟨z1,_,_,_,z2,by simp;omega,fun j e hj he => ?_,fun e he => ?_,hbl.trans z3⟩
               · rw [List.getElem?_append_left (by omega)] at he
                 exact HS2.out.1 j e hj he
               · rcases List.mem_append.1 he with he | he
                 · exact HS2.out.2 e he
                 · obtain rfl:=List.mem_singleton.1 he
                   exact hlq
              have HWt:Hid (∀ (ov':Value) (w6:World),K1 wr base hb (.slice (some ⟨g0,0,none⟩) m oc2) (.slice (some ⟨g1,0,none⟩) m wc2) es2 f (.slice la q lc) ll ov' w6→w6.cell? ⟨hb,1,none⟩=some (.slice (some ⟨g1,0,none⟩) m wc2)∧∀ ob,(w6.alloc ob).ownsRow base 32 1 (.slice (some ⟨g1,0,none⟩) m wc2) m (es2.map BE.w)∧base≤(w6.alloc ob).heap.size):=fun ov' w6 k1=>by
               refine ⟨by simp [World.cell?,k1.bk],fun ob => ?_⟩
               have:=k1.want hB0
               rw [HM.out.1] at this
               exact ⟨World.ownsRow.alloc this ob,by have h1:(w6.alloc ob).heap.size=w6.heap.size+1:=Array.size_push _;have h2:=hB0.bz;have h3:=k1.bel.size;omega⟩
              rw [hq]
              clear hR hR' hB0 hll hbl hq hqL hlq HW HS2
              go_upto_region 22 with (at_builtin;go_must (refine app_L rfl _ _ rfl base (.slice (some ⟨g0,0,none⟩) m oc2) m (es2.map BE.o) rfl (HO.out _).1 _ _ (.slice la q lc) rfl (cell_new1 _ _ _) ⟨_,_,_,rfl⟩ hmN (HO.out _).2 ?_;intro g c w5 ho5 hg5 hG5;have HX:=Hid.mk2 (HK1.out g c _ w5 ho5 hg5 hG5);clear ho5 hg5 hG5;have c5:w5.cell? ⟨hb,0,none⟩=some (.slice (some ⟨g0,0,none⟩) m oc2):=(by simp [World.cell?,HX.out.1]);have f5:w5.frozen? ⟨hb,0,none⟩=false:=(by simp [World.frozen?,HX.out.1])))
              obtain ⟨w6,hw6⟩:∃ w6,w6=w5.setCell ⟨hb,0,none⟩ (.slice (some ⟨g,0,none⟩) (m+1) c):=⟨_,rfl⟩
              rw [←hw6]
              have HK:=Hid.mk2 HX.out.2
              rw [←hw6] at HK
              clear hw6 c5 f5 HX HK1 HO c0
              have c1:=(HWt.out _ _ HK.out).1
              have HO:=Hid.mk2 (HWt.out _ _ HK.out).2
              have HD2:Hid (∀ (g2 c2:Nat) (ob:Obj) (W3:World),W3.ownsRow base 32 1 (.slice (some ⟨g2,0,none⟩) (m+1) c2) (m+1) (es2.map BE.w++[(.slice mma q mmc)])→(w6.alloc ob).grownBy W3 (Value.ownBlock (.slice (some ⟨g1,0,none⟩) m wc2))→(Value.ownBlock (.slice (some ⟨g1,0,none⟩) m wc2)=some g2∨g2=(w6.alloc ob).heap.size)→W3.heap[hb]? = some (.cells #[.slice (some ⟨g,0,none⟩) (m+1) c,(.slice (some ⟨g1,0,none⟩) m wc2),.int .i64 f] 29 (0,0))∧W2 w base hb f n N (i+1) (W3.setCell ⟨hb,1,none⟩ (.slice (some ⟨g2,0,none⟩) (m+1) c2))):=fun g2 c2 ob W3 a b d=>HDn.out _ w6 g2 c2 ob W3 HK.out a b d
              clear HDn HWt HK
              go_upto_region 14 with (at_builtin;go_must (refine app_L rfl _ _ rfl base (.slice (some ⟨g1,0,none⟩) m wc2) m (es2.map BE.w) rfl (HO.out _).1 _ _ (.slice mma q mmc) rfl (cell_new1 _ _ _) ⟨_,_,_,rfl⟩ hmN (HO.out _).2 ?_;intro g2 c2 w7 ho7 hg7 hG7;have HX:=Hid.mk2 (HD2.out g2 c2 _ w7 ho7 hg7 hG7);clear ho7 hg7 hG7;have c7:w7.cell? ⟨hb,1,none⟩=some (.slice (some ⟨g1,0,none⟩) m wc2):=(by simp [World.cell?,HX.out.1]);have f7:w7.frozen? ⟨hb,1,none⟩=false:=(by simp [World.frozen?,HX.out.1])))
              have HF:=Hid.mk2 HX.out.2
              obtain ⟨w8,hw8⟩:∃ w8,w8=w7.setCell ⟨hb,1,none⟩ (.slice (some ⟨g2,0,none⟩) (m+1) c2):=⟨_,rfl⟩
              rw [←hw8] at HF ⊢
              clear hw8 c7 f7 HX HD2 HO c1
              go_wp2
              exact ⟨⟨i+1,by go_num,by omega,by omega,HF⟩,by simp [intOf];omega⟩
     · as_aux_lemma=>
        have hge:¬ (i:Int)<(n:Int):=by omega
        obtain rfl:i=n:=by omega
        obtain ⟨ov2,wv2,es2,hB2,hl2,hs2,ht2,hb2⟩:=HW.out
        obtain ⟨oa2,oc2,rfl⟩:=row_nil hB2.out
        have c0:=hB2.cell.1
        have c2:=hB2.cell.2.2
        have f2:wr.frozen? ⟨hb,2,none⟩=false:=by simp [World.frozen?,hB2.bk]
        have HFr:=Hid.mk2 hB2.fresh
        have HS:Hid (es2.length≤2*es.length∧(∀ e∈es2,e.l.length≤N+30)∧Below base w (wr.setCell ⟨hb,2,none⟩ (.int .i64 es2.length))):=⟨by have:=HN.out;omega,ht2,hb2.setCell (p:=⟨hb,2,none⟩) hB2.hb _⟩
        clear hB2 hl2 hs2 ht2 hb2 HW
        obtain ⟨m,hm⟩:∃ m,es2.length=m:=⟨_,rfl⟩
        have HM:Hid (es2.length=m):=hm
        rw [hm] at c0 HFr HS
        clear hm
        go_upto_region 24 with fail
        obtain ⟨w5,hw5⟩:∃ w5,w5=wr.setCell ⟨hb,2,none⟩ (.int .i64 (m:Int)):=⟨_,rfl⟩
        rw [←hw5] at HFr HS ⊢
        clear hw5 c0 c2 f2
        go_wp2_with fail
        refine (HH.out _ _ _ _ _ _ _ HFr.out).mono ?_
        rintro e w7 ⟨rfl,hg7⟩
        go_wp2
        go_ret
        exact ⟨rfl,_,_,es2,by rw [HM.out];exact HFr.out.grown hg7,by rw [HM.out];exact HS.out.1,HS.out.2.1,HS.out.2.2.trans (hg7.below.mono HFr.out.bz)⟩
theorem step_K {ops:Array Oper} {o:Oper} {a:Act} {K:Act→World→Prop} {Q:Exit→Act→World→Prop} {E:Prop} {w:World} (hgd:o.guard=none) (s x:Operand)
 (ho:o.op = .call { callee := .builtin .append,args:=#[s,x],argTypes:=#[32,32] })
 (base:Nat) (v:Value) (l:List Bk) (hs:a.eval s=v) (hown:OwnK w base v l) (g c:Nat) (b:Bk) (hx:a.eval x = .slice (some ⟨g,0,none⟩) 1 c)
 (hp:w.heap[g]? = some (.cells (kb1 b).toArray 44 (0,0))) (hl:l.length+1≤100000000) (hbase:base≤w.heap.size)
 (h:∀ v' w',OwnK w' base v' (l++[b])→w.grownBy w' v.ownBlock→K (a.put o.dst v') w'):if Region.wanted o (yielded ops a.tmps)=true then Oper.wp Tryz.prog o a w K Q else E:=by
 obtain ⟨i0,hi,hz0,hz1,hz2⟩:=info_parts infoK
 refine step_append_lies w hgd s x 32 ho base 44 i0 (.agg #[.int .i64 0,.int .i64 0,.int .i64 0,.int .i64 0]) 4 32 Tryz.underlying32 hi hz0 hz1 hz2 rfl (by decide) v l.length (kbs l) hs hown ⟨g,0,none⟩ 1 c (kb1 b) hx rfl ?_ (fun u hu=>kbs_one [b] u (by simpa [kbs] using hu)) (by omega) (by unfold maxLen;omega) (by omega) hbase _ rfl (fun g' cap w' h2 h3 _ _=>h _ w' ?_ h3)
 · intro j u hj
   have hadd:(⟨g,0,none⟩:Addr).add j=⟨g,j,none⟩:=by rw [Addr.add_lit,Nat.zero_add]
   rw [hadd,cell_of hp]
   simpa using hj
 · unfold OwnK
   rw [kbs_append,List.length_append]
   simpa [kbs] using h2
def thrK (la lb:List Bk) (n k:Nat):List Bk:=match met (srcs lb) (rAt la (n+1)) with
 | some k0=>if k0<k then thrN la lb (n+1) else thrN la lb n
 | none=>thrN la lb n
theorem thrK_zero (la lb:List Bk) (n:Nat):thrK la lb n 0=thrN la lb n:=by
 unfold thrK;cases met (srcs lb) (rAt la (n+1)) <;> simp
theorem met_lt {hs:List Int} {t:Int} {i:Nat} (h:met hs t=some i):∃ hi:i<hs.length,hs[i]=t:=by
 unfold met at h
 rw [List.findIdx?_eq_some_iff_getElem] at h
 obtain ⟨hi,h1,_⟩:=h
 exact ⟨hi,by simpa using h1⟩
theorem thrK_end (la lb:List Bk) (n:Nat):thrK la lb n (lb.length+1)=thrN la lb (n+1):=by
 unfold thrK
 cases h:met (srcs lb) (rAt la (n+1)) with
 | none=>exact (thrN_none h).symm
 | some k0=>
  obtain ⟨hk,_⟩:=met_lt h
  rw [srcs_len] at hk
  simp [hk]
theorem thrK_hit {la lb:List Bk} (hj:Join lb) {n k:Nat} (hk:k≤lb.length) (h:sAt lb k=rAt la (n+1)):thrK la lb n k=thrN la lb n∧thrK la lb n (k+1)=thrN la lb n++[upB (thrN la lb n) (sAt la (n+1)) (rAt lb k)]:=by
 have hm:met (srcs lb) (rAt la (n+1))=some k:=met_some (fun j hj' hlt=>by
  have h1:(srcs lb)[j]=sAt lb j:=by rw [←getD_lt hj'];rfl
  rw [h1,←h]
  exact sAt_mono hj hlt hk) ⟨by rw [srcs_len];omega,by rw [←getD_lt (by rw [srcs_len];omega)];exact h⟩
 unfold thrK
 rw [hm]
 simp [thrN_some hm]
theorem thrK_miss {la lb:List Bk} {n k:Nat} (hk:k≤lb.length) (h:sAt lb k≠rAt la (n+1)):thrK la lb n (k+1)=thrK la lb n k:=by
 unfold thrK
 cases hm:met (srcs lb) (rAt la (n+1)) with
 | none=>rfl
 | some k0=>
  obtain ⟨hk0,he⟩:=met_lt hm
  have hne:k0≠k:=fun e=>by subst e;exact h (by rw [←he,←getD_lt hk0];rfl)
  have:k0<k+1↔k0<k:=by omega
  simp [this]
theorem cell_of_rs1 {w:World} {g o n c:Nat} {l:List Bk} (h:Rs w (.slice (some ⟨g,o,none⟩) n c) (brs l)) {j:Nat} {y:Int} (hy:rAt l j=y) (hj:j≤l.length):w.cell? ⟨g,o+j*2+1,none⟩=some (.int .i64 y):=by
 obtain ⟨g',o',e,_,h1⟩:=brs_cell h hj
 injection e with e
 injection e with e1 e2 _
 subst e1
 subst e2
 rw [←hy];exact h1
def TI2 (w:World) (bx:Nat) (ov:Value) (L:List Bk) (W:World):Prop:=OwnK W (bx+1) ov L∧W.heap[bx]? = some (.cells #[.int .i64 (sAt L L.length),.int .i64 (rAt L L.length)] 70 (0,0))∧Below w.heap.size w W
set_option maxHeartbeats 16000000 in
theorem rthrough_walk (va:Option Addr) (n vc:Nat) (la:List Bk) (vb:Option Addr) (m vd:Nat) (lb:List Bk) (w:World) (ha:KR w (.slice va n vc) la) (hb:KR w (.slice vb m vd) lb) (hn:la.length=n) (hm:lb.length=m) (hnb:n≤900000) (hmb:m≤900000):Calls Tryz.prog 35 #[.slice va n vc,.slice vb m vd] w (ThQ w la lb):=by
 have HB1:=Hid.mk' (rborders_any _ la w ha (by omega))
 have HB2:Hid (∀ W,Below w.heap.size w W→Calls Tryz.prog 33 #[.slice vb m vd] W (RbQ W lb)):=fun W h=>rborders_any _ lb W (hb.below h (Nat.le_refl _)) (by omega)
 have HN:Hid (la.length=n∧lb.length=m):=⟨hn,hm⟩
 have hnI:(n:Int)≤900000:=by omega
 have hmI:(m:Int)≤900000:=by omega
 clear ha hb hn hm
 go_enter Tryz.func35,Tryz.ntmps35
 go_wp2_with fail
 refine HB1.out.mono ?_
 rintro e w1 ⟨v1,b1,rfl,hq1,hb1⟩
 have HW1:=Hid.mk' hb1
 clear hb1 HB1
 rcases hq1 with ⟨hja,rfl,hrs1⟩ | ⟨hno,rfl,rfl⟩
 · obtain ⟨ba,bc,hv⟩:=rs_form hrs1
   rw [brs_len,HN.out.1] at hv
   subst hv
   have HR1:=Hid.mk' hrs1
   have HJA:=Hid.mk' hja
   clear hrs1 hja
   go_wp2_with fail
   refine (HB2.out w1 HW1.out).mono ?_
   rintro e w2 ⟨v2,b2,rfl,hq2,hb2⟩
   have HW2:Hid (Below w.heap.size w w2∧Rs w2 (.slice ba (n+1) bc) (brs la)):=⟨HW1.out.trans (hb2.mono HW1.out.size),HR1.out.below hb2 (Nat.le_refl _)⟩
   clear hb2
   rcases hq2 with ⟨hjb,rfl,hrs2⟩ | ⟨hno,rfl,rfl⟩
   · obtain ⟨da,dc,hv⟩:=rs_form hrs2
     rw [brs_len,HN.out.2] at hv
     subst hv
     have HR2:=Hid.mk' hrs2
     have HJB:=Hid.mk' hjb
     clear hrs2 hjb
     obtain ⟨ga,oa,hae,_,l1⟩:=brs_cell HW2.out.2 (j:=n) (by rw [HN.out.1];exact Nat.le_refl _)
     subst hae
     obtain ⟨gb,ob,hbe,k0,_⟩:=brs_cell HR2.out (j:=m) (by rw [HN.out.2];exact Nat.le_refl _)
     subst hbe
     obtain ⟨x,hx⟩:∃ x,rAt la n=x:=⟨_,rfl⟩
     obtain ⟨y,hy⟩:∃ y,sAt lb m=y:=⟨_,rfl⟩
     rw [hx] at l1
     rw [hy] at k0
     have HXY:Hid (rAt la la.length=x∧sAt lb lb.length=y):=⟨by rw [HN.out.1];exact hx,by rw [HN.out.2];exact hy⟩
     have hN1:((n+1:Nat):Int) - 1=(n:Int):=by omega
     have hN2:(n:Int)<((n+1:Nat):Int):=by omega
     have hN3:(n:Int)+1 - 1=(n:Int):=by omega
     have hN4:(n:Int)<(n:Int)+1:=by omega
     have hM1:((m+1:Nat):Int) - 1=(m:Int):=by omega
     have hM2:(m:Int)<((m+1:Nat):Int):=by omega
     have hM3:(m:Int)+1 - 1=(m:Int):=by omega
     have hM4:(m:Int)<(m:Int)+1:=by omega
     clear hx hy
     by_cases hxy:x=y
     · have c1:(x == y)=true:=by simpa using hxy
       have c2:(x != y)=false:=by simpa using hxy
       have HOK:Hid (ThrOk la lb):=⟨HJA.out,HJB.out,by rw [HXY.out.1,HXY.out.2];exact hxy⟩
       clear hxy
       have hz0:∀ k,((w2.drewN k).alloc (.cells #[.int .i64 0,.int .i64 0] 70)).cell? ⟨w2.heap.size,0,none⟩=some (.int .i64 0):=fun k=>by
        have h:=heap_alloc_new (w2.drewN k) (.cells #[.int .i64 0,.int .i64 0] 70)
        exact (cell_of h).trans rfl
       have hz1:∀ k,((w2.drewN k).alloc (.cells #[.int .i64 0,.int .i64 0] 70)).cell? ⟨w2.heap.size,1,none⟩=some (.int .i64 0):=fun k=>by
        have h:=heap_alloc_new (w2.drewN k) (.cells #[.int .i64 0,.int .i64 0] 70)
        exact (cell_of h).trans rfl
       have hzf:∀ k j,((w2.drewN k).alloc (.cells #[.int .i64 0,.int .i64 0] 70)).frozen? ⟨w2.heap.size,j,none⟩=false:=fun k j=>by
        have h:=heap_alloc_new (w2.drewN k) (.cells #[.int .i64 0,.int .i64 0] 70)
        exact free_of h
       go_wp2
       go_big_quiet (fail)
       go_wp2
       have HST:Hid (∀ k,TI2 w2 w2.heap.size (.slice none 0 0) [] ((((w2.drewN k).alloc (.cells #[.int .i64 0,.int .i64 0] 70)).setCell ⟨w2.heap.size,0,none⟩ (.int .i64 0)).setCell ⟨w2.heap.size,1,none⟩ (.int .i64 0))):=fun k=>by
        have h:=heap_alloc_new (w2.drewN k) (.cells #[.int .i64 0,.int .i64 0] 70)
        have h:((w2.drewN k).alloc (.cells #[.int .i64 0,.int .i64 0] 70)).heap[w2.heap.size]? = some (.cells #[.int .i64 0,.int .i64 0] 70 (0,0)):=h
        have hg:Grown w2 ((w2.drewN k).alloc (.cells #[.int .i64 0,.int .i64 0] 70)):=((Grown.refl w2).drewN k).alloc _
        have hf:Fr ((w2.drewN k).alloc (.cells #[.int .i64 0,.int .i64 0] 70)) _ (fun k=>k=w2.heap.size):=(fr_set _ w2.heap.size 0 (.int .i64 0)).trans (fr_set _ w2.heap.size 1 (.int .i64 0)) fun _ _ e=>e
        refine ⟨OwnK.nil _ _,?_,hg.below.trans (hf.below (fun b e=>by have e:b=w2.heap.size:=e;omega) hg.size)⟩
        rw [set_heap (set_heap h)];rfl
       clear hz0 hz1 hzf l1 k0 c1 c2
       go_loopg [10,12] n (fun q s10 s12 wr=>∃ (i:Nat) (oa:Option Addr) (on oc:Nat),s10 = .slice oa on oc∧s12 = .int .i64 (i:Int)∧1≤i∧i≤n+1∧n+1 - i≤q∧Hid (TI2 w2 w2.heap.size (.slice oa on oc) (thrN la lb (i - 1)) wr∧(thrN la lb (i - 1)).length=on))
       case atStart=>exact ⟨1,none,0,0,rfl,rfl,by omega,by omega,by omega,HST.out _,rfl⟩
       case round=>
        obtain ⟨i1,oa,on,oc,rfl,rfl,hi0,hi1,hi2,HI⟩:=hrel
        have hiI:(i1:Int)≤900001:=by omega
        obtain ⟨i,hie⟩:∃ i,i=i1 - 1:=⟨_,rfl⟩
        rw [←hie] at HI
        have HIE:Hid (i1=i+1):=by show _=_;omega
        clear HST
        obtain ⟨wo,hwo⟩:∃ x,x=wr:=⟨_,rfl⟩
        subst hwo
        by_cases hil:i1<n+1
        · have hilI:(i1:Int)<((n+1:Nat):Int):=by omega
          have hilJ:(i1:Int)<(n:Int)+1:=by omega
          have HIL:Hid (i<n):=by show _<_;omega
          clear hie
          obtain ⟨ga',oa',he,a0,a1⟩:=brs_cell HW2.out.2 (j:=i1) (by rw [HN.out.1];omega)
          injection he with he
          injection he with he1 he2 _
          subst he1
          subst he2
          obtain ⟨sa,has⟩:∃ x,sAt la i1=x:=⟨_,rfl⟩
          obtain ⟨ar,har⟩:∃ x,rAt la i1=x:=⟨_,rfl⟩
          rw [has] at a0
          rw [har] at a1
          have HAA:Hid (sAt la (i+1)=sa∧rAt la (i+1)=ar):=by rw [←HIE.out];exact ⟨has,har⟩
          clear has har
          have HI0:Hid (TI2 w2 w2.heap.size (.slice oa on oc) (thrK la lb i 0) wo∧(thrK la lb i 0).length=on):=by rw [thrK_zero];exact HI.out
          clear HI
          go_wp2
          go_loopg [10,13] (m+1) (fun q s10 s13 wr=>∃ (k:Nat) (oa:Option Addr) (on oc:Nat),s10 = .slice oa on oc∧s13 = .int .i64 (k:Int)∧k≤m+1∧m+1 - k≤q∧Hid (TI2 w2 w2.heap.size (.slice oa on oc) (thrK la lb i k) wr∧(thrK la lb i k).length=on))
          case atStart=>exact ⟨0,oa,on,oc,rfl,rfl,by omega,by omega,HI0.out⟩
          case round=>
           obtain ⟨k,pa,pn,pc,rfl,rfl,hk1,hk2,HR⟩:=hrel
           have hkI:(k:Int)≤900001:=by omega
           clear HI0
           by_cases hkm:k<m+1
           · have hkmI:(k:Int)<((m+1:Nat):Int):=by omega
             have hkmJ:(k:Int)<(m:Int)+1:=by omega
             obtain ⟨gb',ob',he,b0,b1⟩:=brs_cell HR2.out (j:=k) (by rw [HN.out.2];omega)
             injection he with he
             injection he with he1 he2 _
             subst he1
             subst he2
             obtain ⟨bs,hbs⟩:∃ x,sAt lb k=x:=⟨_,rfl⟩
             obtain ⟨br,hbr⟩:∃ x,rAt lb k=x:=⟨_,rfl⟩
             rw [hbs] at b0
             rw [hbr] at b1
             have HBB:Hid (sAt lb k=bs∧rAt lb k=br):=⟨hbs,hbr⟩
             clear hbs hbr
             have b0:=cell_below b0 HR.out.1.2.2 (Nat.le_refl _)
             have b1:=cell_below b1 HR.out.1.2.2 (Nat.le_refl _)
             have a0':=cell_below a0 HR.out.1.2.2 (Nat.le_refl _)
             have a1':=cell_below a1 HR.out.1.2.2 (Nat.le_refl _)
             by_cases hbe:bs=ar
             · have e1:(bs == ar)=true:=by simpa using hbe
               have e2:decide (bs=ar)=true:=by simpa using hbe
               obtain ⟨hk3,hk4⟩:=thrK_hit (la:=la) HJB.out (k:=k) (by rw [HN.out.2];omega) (by rw [HBB.out.1,HAA.out.2];exact hbe)
               obtain ⟨L,hL⟩:∃ L,thrN la lb i=L:=⟨_,rfl⟩
               rw [hL] at hk3 hk4
               rw [HAA.out.1,HBB.out.2] at hk4
               have HRL:=HR
               rw [hk3] at HRL
               obtain ⟨S,hS⟩:∃ x,sAt L L.length=x:=⟨_,rfl⟩
               obtain ⟨R,hR⟩:∃ x,rAt L L.length=x:=⟨_,rfl⟩
               have hbx:=HRL.out.1.2.1
               rw [hS,hR] at hbx
               have x0:wr.cell? ⟨w2.heap.size,0,none⟩=some (.int .i64 S):=by rw [cell_of hbx];rfl
               have x1:wr.cell? ⟨w2.heap.size,1,none⟩=some (.int .i64 R):=by rw [cell_of hbx];rfl
               have HK4:Hid (thrK la lb i (k+1)=L++[(S,sa,R,br)]):=by rw [←hS,←hR];exact hk4
               have HLl:Hid (L.length≤900000∧L.length=pn):=⟨by rw [←hL];have:=thrN_len la lb i;have:=HIL.out;omega,HRL.out.2⟩
               have HBX:=Hid.mk' hbx
               have HW:Hid (∀ W,Grown wr W→OwnK W (w2.heap.size+1) (.slice pa pn pc) L∧w2.heap.size+1≤W.heap.size):=fun W hg=>⟨HRL.out.1.1.below hg.below (Nat.le_refl _),by have:=blk_lt HBX.out;have:=hg.size;omega⟩
               have HF:Hid (∀ v' W w',Grown wr W→OwnK w' (w2.heap.size+1) v' (L++[(S,sa,R,br)])→W.grownBy w' (Value.slice pa pn pc).ownBlock→∃ a c,v' = .slice a (pn+1) c∧OwnK w' (w2.heap.size+1) (.slice a (pn+1) c) (L++[(S,sa,R,br)])∧w'.heap[w2.heap.size]? = some (.cells #[.int .i64 S,.int .i64 R] 70 (0,0))∧Below w2.heap.size w2 w'):=fun v' W w' hg h1 h2=>by
                obtain ⟨a,c,hf⟩:=h1.form
                have e:(L++[(S,sa,R,br)]).length=pn+1:=by rw [List.length_append,HLl.out.2];rfl
                rw [e] at hf
                have hno:∀ b,(Value.slice pa pn pc).ownBlock=some b→w2.heap.size+1≤b:=fun b hb=>(World.ownsRow.lt HRL.out.1.1 b hb).1
                have hWb:W.heap[w2.heap.size]? = some (.cells #[.int .i64 S,.int .i64 R] 70 (0,0)):=(hg.below.block _ (blk_lt HBX.out)).trans HBX.out
                refine ⟨a,c,hf,by rw [←hf];exact h1,((fr_by h2).block _ (blk_lt hWb) fun e=>by have:=hno _ e;omega).trans hWb,?_⟩
                have hb2:=HRL.out.1.2.2.trans (hg.below.mono HRL.out.1.2.2.size)
                exact hb2.trans ((fr_by h2).below (fun b e=>by have:=hno b e;omega) hb2.size)
               clear hbe hk3 hk4 hL HRL hbx hS hR
               go_wp2
               go_big_quiet (fail)
               go_upto_region 14 with fail
               go_cut [10] (fun s wx=>∃ na nc,s = .slice na (pn+1) nc∧Hid (OwnK wx (w2.heap.size+1) (.slice na (pn+1) nc) (L++[(S,sa,R,br)])∧wx.heap[w2.heap.size]? = some (.cells #[.int .i64 S,.int .i64 R] 70 (0,0))∧Below w2.heap.size w2 wx))
               case first=>
                go_region_law (refine step_K rfl (.tmp 71) (.tmp 87) rfl (w2.heap.size+1) (.slice pa pn pc) L rfl (HW.out _ (by (repeat (first | exact Grown.refl _ | refine Grown.alloc ?_ _ | refine Grown.drew ?_ | refine Grown.drewN ?_ _ | refine Grown.quiet ?_ _ _)))).1 _ _ (S,sa,R,br) rfl (by exact alloc_at (by simp)) (by have:=HLl.out;omega) (HW.out _ (by (repeat (first | exact Grown.refl _ | refine Grown.alloc ?_ _ | refine Grown.drew ?_ | refine Grown.drewN ?_ _ | refine Grown.quiet ?_ _ _)))).2 ?_;intro v2 w3 hO2 hG2;obtain ⟨na,nc,hv2,hO3,hX3,hB3⟩:=HF.out _ _ _ (by (repeat (first | exact Grown.refl _ | refine Grown.alloc ?_ _ | refine Grown.drew ?_ | refine Grown.drewN ?_ _ | refine Grown.quiet ?_ _ _))) hO2 hG2;subst hv2;have HO3:=Hid.mk' (And.intro hO3 (And.intro hX3 hB3));clear hO2 hG2 hO3 hX3 hB3)
                all_goals
                 go_wp2_with fail
                 go_meet
                 exact ⟨na,nc,rfl,HO3.out⟩
               case rest=>
                obtain ⟨na,nc,rfl,HO3⟩:=hcut
                have y0:=cell_below a0 HO3.out.2.2 (Nat.le_refl _)
                have y1:=cell_below (cell_of_rs1 HR2.out HBB.out.2 (by rw [HN.out.2];omega)) HO3.out.2.2 (Nat.le_refl _)
                have z0:wc.cell? ⟨w2.heap.size,0,none⟩=some (.int .i64 S):=by rw [cell_of HO3.out.2.1];rfl
                have z1:wc.cell? ⟨w2.heap.size,1,none⟩=some (.int .i64 R):=by rw [cell_of HO3.out.2.1];rfl
                have zf:∀ j,wc.frozen? ⟨w2.heap.size,j,none⟩=false:=fun j=>free_of HO3.out.2.1
                clear b0 b1 a0' a1' x0 x1 HW HF
                go_wp2_with fail
                go_region
                go_wp2
                go_roundg (m+1 - (k+1))
                case measure=>omega
                case rel=>
                 refine ⟨k+1,na,pn+1,nc,rfl,rfl,by omega,Nat.le_refl _,?_⟩
                 rw [HK4.out]
                 obtain ⟨q1,q2,q3⟩:=HO3.out
                 obtain ⟨se,re⟩:=sAt_end L (S,sa,R,br)
                 have hf:Fr wc (((wc.setCell ⟨w2.heap.size,0,none⟩ (.int .i64 sa)).setCell ⟨w2.heap.size,1,none⟩ (.int .i64 br)).drew) (fun b=>b=w2.heap.size):=((fr_set _ _ _ _).trans (fr_set _ _ _ _) fun _ _ e=>e).trans (fr_grown (Grown.refl _).drew _) fun _ _ e=>e
                 refine ⟨⟨own_fr q1 hf fun b hb e => ?_,?_,q3.trans (hf.below (fun b e=>by have e:b=w2.heap.size:=e;omega) q3.size)⟩,by rw [List.length_append,HLl.out.2];rfl⟩
                 · have:=(World.ownsRow.lt q1 b hb).1
                   have e:b=w2.heap.size:=e
                   omega
                 · rw [List.length_append,List.length_singleton,se,re]
                   show (((wc.setCell ⟨w2.heap.size,0,none⟩ (.int .i64 sa)).setCell ⟨w2.heap.size,1,none⟩ (.int .i64 br))).heap[w2.heap.size]? = _
                   rw [set_heap (set_heap q2)];rfl
             · have e1:(bs == ar)=false:=by simpa using hbe
               have e2:decide (bs=ar)=false:=by simpa using hbe
               have HM:Hid (thrK la lb i (k+1)=thrK la lb i k):=thrK_miss (by rw [HN.out.2];omega) (by rw [HBB.out.1,HAA.out.2];exact hbe)
               clear hbe
               go_wp2
               go_big_quiet (fail)
               go_wp2
               go_roundg (m+1 - (k+1))
               case measure=>omega
               case rel=>
                refine ⟨k+1,pa,pn,pc,rfl,rfl,by omega,Nat.le_refl _,?_⟩
                rw [HM.out]
                have hg:=(Grown.refl wr).drewN
                exact ⟨⟨HR.out.1.1.below (hg _).below (Nat.le_refl _),HR.out.1.2.1,HR.out.1.2.2.trans ((hg _).below.mono HR.out.1.2.2.size)⟩,HR.out.2⟩
           · have hkmI:¬ (k:Int)<((m+1:Nat):Int):=by omega
             have hkmJ:¬ (k:Int)<(m:Int)+1:=by omega
             obtain rfl:k=m+1:=by omega
             have HE:Hid (thrK la lb i (m+1)=thrN la lb (i+1)):=by have:=thrK_end la lb i;rw [HN.out.2] at this;exact this
             go_wp2
             go_roundg (n+1 - (i1+1))
             case measure=>omega
             case rel=>exact ⟨i1+1,pa,pn,pc,rfl,rfl,by omega,by omega,Nat.le_refl _,by rw [Nat.add_sub_cancel,HIE.out,←HE.out];exact HR.out⟩
        · have hilI:¬ (i1:Int)<((n+1:Nat):Int):=by omega
          have hilJ:¬ (i1:Int)<(n:Int)+1:=by omega
          have hin:Hid (i=n):=by show _=_;omega
          clear hie
          go_wp2
          refine bodyPost_ret (v := .tuple #[.slice oa on oc,.int .i64 0]) (by simp [results,Tryz.f35,go_sem]) rfl ?_
          refine ⟨_,_,rfl,.inl ⟨HOK.out,rfl,?_⟩,HW2.out.1.trans (HI.out.1.2.2.mono HW2.out.1.size)⟩
          rw [HN.out.1,←hin.out]
          exact Joins.ownsRow_le HI.out.1.1 (by have:=HW2.out.1.size;omega)
     · have c1:(x == y)=false:=by simpa using hxy
       have c2:(x != y)=true:=by simpa using hxy
       have HNO:Hid (¬ ThrOk la lb):=fun h=>hxy (by rw [←HXY.out.1,←HXY.out.2];exact h.2.2)
       clear hxy
       go_wp2
       go_big_quiet (fail)
       go_wp2
       refine bodyPost_ret (v := .tuple #[.slice none 0 0,.int .i64 1]) (by simp [results,Tryz.f35,go_sem]) rfl ?_
       exact ⟨_,_,rfl,.inr ⟨HNO.out,rfl,rfl⟩,HW2.out.1.trans (((Grown.refl w2).drewN _).below.mono HW2.out.1.size)⟩
   · have HNO:Hid (¬ ThrOk la lb):=fun h=>hno h.2.1
     clear hno
     go_wp2
     go_big_quiet (fail)
     go_wp2
     refine bodyPost_ret (v := .tuple #[.slice none 0 0,.int .i64 1]) (by simp [results,Tryz.f35,go_sem]) rfl ?_
     exact ⟨_,_,rfl,.inr ⟨HNO.out,rfl,rfl⟩,HW2.out.1.trans (((Grown.refl w2).drewN _).below.mono HW2.out.1.size)⟩
 · have HNO:Hid (¬ ThrOk la lb):=fun h=>hno h.1
   clear hno
   go_wp2_with fail
   refine (HB2.out w1 HW1.out).mono ?_
   rintro e w2 ⟨v2,b2,rfl,hq2,hb2⟩
   have hsl:∃ a q c,v2 = .slice a q c:=by
    rcases hq2 with ⟨_,_,h⟩ | ⟨_,_,h⟩
    · obtain ⟨a,c,e⟩:=rs_form h;exact ⟨a,_,c,e⟩
    · exact ⟨_,_,_,h⟩
   obtain ⟨a2,q2,d2,rfl⟩:=hsl
   have HW2:Hid (Below w.heap.size w w2):=HW1.out.trans (hb2.mono HW1.out.size)
   clear hb2 hq2
   go_wp2
   go_big_quiet (fail)
   go_wp2
   refine bodyPost_ret (v := .tuple #[.slice none 0 0,.int .i64 1]) (by simp [results,Tryz.f35,go_sem]) rfl ?_
   exact ⟨_,_,rfl,.inr ⟨HNO.out,rfl,rfl⟩,HW2.out.trans (((Grown.refl w2).drewN _).below.mono HW2.out.size)⟩
theorem thq_one (la lb:List Bk):∃ (L:List Bk) (c:Int),L.length≤la.length∧∀ w e w',ThQ w la lb e w'→∃ lv,e = .returned (.tuple #[lv,.int .i64 c])∧OwnK w' w.heap.size lv L∧Below w.heap.size w w':=by
 by_cases hk:ThrOk la lb
 · refine ⟨thrN la lb la.length,0,thrN_len _ _ _,?_⟩
   rintro w e w' ⟨lv,ev,rfl,h,hb⟩
   rcases h with ⟨_,rfl,h⟩ | ⟨h,_⟩
   · exact ⟨lv,rfl,h,hb⟩
   · exact absurd hk h
 · refine ⟨[],1,by simp,?_⟩
   rintro w e w' ⟨lv,ev,rfl,h,hb⟩
   rcases h with ⟨h,_⟩ | ⟨_,rfl,rfl⟩
   · exact absurd h hk
   · exact ⟨_,rfl,OwnK.nil _ _,hb⟩
theorem set4_grownBy (W:World) (g o:Nat) (x:Bk):W.grownBy (set4 W g o x) (some g):=⟨rfl,rfl,rfl,by rw [set4_size];exact Nat.le_refl _,fun k _ hne=>set4_other W g o x k (fun e=>hne (by rw [e]))⟩
def LiK (W:World) (g n:Nat):Prop:=∃ cur,W.heap[g]? = some (.cells cur 44 (0,0))∧n*4≤cur.size
structure Q16 (w:World) (base hb:Nat) (ov wv:Value) (es:List BE) (f u g1 n g2 m:Nat) (W:World):Prop where
 bk:Bok W base hb ov wv es f u es.length
 l1:LiK W g1 n
 l2:LiK W g2 m
 b1:base≤g1
 b2:base≤g2
 n1:g1 ∉ blksO es
 n2:g2 ∉ blksO es
 bel:Below base w W
section
variable {w W W':World} {base hb f u g1 n g2 m:Nat} {ov wv:Value} {es:List BE}
theorem LiK.below {g:Nat} (h:LiK W g n) (hb:Below W.heap.size W W'):LiK W' g n:=by
 obtain ⟨cur,h1,h2⟩:=h
 exact ⟨cur,(hb.block g (Array.getElem?_eq_some_iff.1 h1).1).trans h1,h2⟩
theorem LiK.set {g g' o:Nat} {x:Bk} (h:LiK W g n):LiK (set4 W g' o x) g n:=by
 obtain ⟨cur,h1,h2⟩:=h
 by_cases e:g=g'
 · subst e
   exact ⟨_,set4_at h1,by simpa using h2⟩
 · exact ⟨cur,(set4_other W g' o x g e).trans h1,h2⟩
theorem Q16.below (h:Q16 w base hb ov wv es f u g1 n g2 m W) (k:Below W.heap.size W W'):Q16 w base hb ov wv es f u g1 n g2 m W':=
 ⟨h.bk.below k (Nat.le_refl _),h.l1.below k,h.l2.below k,h.b1,h.b2,h.n1,h.n2,h.bel.trans (k.mono h.bk.bz)⟩
theorem Q16.set1 (h:Q16 w base hb ov wv es f u g1 n g2 m W) (o:Nat) (x:Bk):Q16 w base hb ov wv es f u g1 n g2 m (set4 W g1 o x):=
 ⟨h.bk.row (set4_grownBy W g1 o x) (fun b e=>by injection e with e;subst e;obtain ⟨cur,h1,_⟩:=h.l1;exact ⟨h.n1,cur,h1⟩),h.l1.set,h.l2.set,h.b1,h.b2,h.n1,h.n2,h.bel.trans (set4_below h.b1)⟩
theorem Q16.set2 (h:Q16 w base hb ov wv es f u g1 n g2 m W) (o:Nat) (x:Bk):Q16 w base hb ov wv es f u g1 n g2 m (set4 W g2 o x):=
 ⟨h.bk.row (set4_grownBy W g2 o x) (fun b e=>by injection e with e;subst e;obtain ⟨cur,h1,_⟩:=h.l2;exact ⟨h.n2,cur,h1⟩),h.l1.set,h.l2.set,h.b1,h.b2,h.n1,h.n2,h.bel.trans (set4_below h.b2)⟩
theorem LiK.four {g k:Nat} (h:LiK W g n) (hk:k<n) (a b c:Int):Four W g k a b c:=by
 obtain ⟨cur,h1,h2⟩:=h
 exact four_of h1 (by omega) a b c
theorem lies_own {base g N c:Nat} {l:List Bk} (h:OwnK W base (.slice (some ⟨g,0,none⟩) N c) l) (hn:n≤l.length):LiK W g n:=by
 obtain ⟨cur,h1,h2⟩:=own_cur h
 exact ⟨cur,h1,by omega⟩
theorem Tch.own {base base' hb:Nat} {ov wv v:Value} {es:List BE} {f u t:Nat} {l:List Bk} (h:Bok W base hb ov wv es f u t) (k:Tch hb ov wv W W') (ho:OwnK W base' v l):OwnK W' base' v l:=
 own_stays ho fun b cur _ _ hc=>(k.block b (Array.getElem?_eq_some_iff.1 hc).1 (typ_ne hc h.bk (by decide)) (fun e=>by obtain ⟨_,d,h2⟩:=row_typ h.out e;exact typ_ne hc h2 (by decide) rfl) (fun e=>by obtain ⟨_,d,h2⟩:=row_typ h.want e;exact typ_ne hc h2 (by decide) rfl)).trans hc
end
set_option maxHeartbeats 8000000 in
theorem throughL_any (base hb:Nat) (ov wv:Value) (es:List BE) (f u N:Nat) (a:Option Addr) (n c:Nat) (la:List Bk) (b:Option Addr) (m d:Nat) (lb:List Bk) (w:World) (h:Bok w base hb ov wv es f u es.length) (hes:es.length≤99) (hN:N≤800000) (hsm:∀ e∈es,e.l.length≤N)
 (hA:∀ W,Below base w W→KR W (.slice a n c) la∧KR W (.slice b m d) lb) (hn:la.length=n) (hm:lb.length=m) (hnN:n≤N) (hmN:m≤N) (hFa:Value.slice a n c = .slice none 0 0∨∃ ad n' c',Value.slice a n c = .slice (some ad) n' c') (hFb:Value.slice b m d = .slice none 0 0∨∃ ad n' c',Value.slice b m d = .slice (some ad) n' c') :
 Calls Tryz.prog 16 #[.pointer (some ⟨hb,0,none⟩),.slice a n c,.slice b m d] w fun e w'=>e = .returned (.bool true)∧∃ ov' wv' es',Bok w' base hb ov' wv' es' f u es'.length∧es'.length=es.length+1∧(∀ e∈es',e.l.length≤N)∧Below base w w':=by
 obtain ⟨L,ec,hL,hTH⟩:=thq_one la lb
 have HTH:=Hid.mk2 hTH
 have HA:=Hid.mk2 hA
 have HB:=Hid.mk2 (And.intro h (And.intro hes hsm))
 have HN:Hid (la.length=n∧lb.length=m∧n≤N∧m≤N∧N≤800000∧L.length≤N):=⟨hn,hm,hnN,hmN,hN,by omega⟩
 have HF:=Hid.mk2 (And.intro hFa hFb)
 have hnI:(n:Int)≤800000:=by omega
 have hmI:(m:Int)≤800000:=by omega
 clear h hes hsm hA hn hm hnN hmN hN hFa hFb hL hTH
 go_enter Tryz.func16,Tryz.ntmps16
 go_wp2_with fail
 refine (lent_any _ la w (HA.out w (Below.refl _ _)).1 HF.out.1 (by have:=HN.out;omega)).mono ?_
 rintro e w1 ⟨x1,rfl,ho1,hb1⟩
 obtain ⟨g1,c1,hx1,hc1,hO1⟩:=ho1
 rw [HN.out.1] at hx1 hc1 hO1
 subst hx1
 have H1:Hid (OwnK w1 w.heap.size (.slice (some ⟨g1,0,none⟩) (n+2) c1) (la++[(-77,0,0,0),(0,0,0,-78)])∧n+2≤c1∧Below w.heap.size w w1):=⟨hO1,hc1,hb1⟩
 have hg1:g1<w1.heap.size:=(World.ownsRow.lt hO1 g1 rfl).2
 clear hb1 hO1
 go_wp2_with fail
 refine (lent_any _ lb w1 (HA.out w1 (H1.out.2.2.mono HB.out.1.bz)).2 HF.out.2 (by have:=HN.out;omega)).mono ?_
 rintro e w2 ⟨x2,rfl,ho2,hb2⟩
 obtain ⟨g2,c2,hx2,hc2,hO2⟩:=ho2
 rw [HN.out.2.1] at hx2 hc2 hO2
 subst hx2
 have H2:Hid (OwnK w2 w.heap.size (.slice (some ⟨g1,0,none⟩) (n+2) c1) (la++[(-77,0,0,0),(0,0,0,-78)])∧n+2≤c1∧OwnK w2 w1.heap.size (.slice (some ⟨g2,0,none⟩) (m+2) c2) (lb++[(-77,0,0,0),(0,0,0,-78)])∧m+2≤c2∧Below w.heap.size w w2∧w.heap.size≤w1.heap.size∧w1.heap.size≤w2.heap.size):=⟨H1.out.1.below hb2 (Nat.le_refl _),hc1,hO2,hc2,H1.out.2.2.trans (hb2.mono H1.out.2.2.size),H1.out.2.2.size,hb2.size⟩
 have HLK:Hid (∀ W,OwnK W w.heap.size (.slice (some ⟨g1,0,none⟩) (n+2) c1) (la++[(-77,0,0,0),(0,0,0,-78)])→OwnK W w1.heap.size (.slice (some ⟨g2,0,none⟩) (m+2) c2) (lb++[(-77,0,0,0),(0,0,0,-78)])→LK W w.heap.size (.slice (some ⟨g1,0,none⟩) n c1) la∧LK W w1.heap.size (.slice (some ⟨g2,0,none⟩) m c2) lb):=fun W k1 k2=>⟨⟨g1,c1,by rw [HN.out.1],by rw [HN.out.1];exact H2.out.2.1,by rw [HN.out.1];exact k1⟩,⟨g2,c2,by rw [HN.out.2.1],by rw [HN.out.2.1];exact H2.out.2.2.2.1,by rw [HN.out.2.1];exact k2⟩⟩
 clear hb2 hO2 H1
 go_wp2_with fail
 refine (through_any _ _ la lb w2 (HLK.out w2 H2.out.1 H2.out.2.2.1).1.kr (HLK.out w2 H2.out.1 H2.out.2.2.1).2.kr (by have:=HN.out;omega) (by have:=HN.out;omega)).mono ?_
 intro e w3 hQ
 obtain ⟨lv,rfl,hlv,hb3⟩:=HTH.out w2 e w3 hQ
 obtain ⟨q1,q3,hq⟩:=row_nilK hlv
 have H3:Hid (OwnK w3 w.heap.size (.slice (some ⟨g1,0,none⟩) (n+2) c1) (la++[(-77,0,0,0),(0,0,0,-78)])∧OwnK w3 w1.heap.size (.slice (some ⟨g2,0,none⟩) (m+2) c2) (lb++[(-77,0,0,0),(0,0,0,-78)])∧OwnK w3 w2.heap.size lv L∧Below w.heap.size w w3∧w.heap.size≤w1.heap.size∧w1.heap.size≤w2.heap.size∧g1<w1.heap.size∧g2<w2.heap.size∧Below w.heap.size w w2):=⟨H2.out.1.below hb3 (Nat.le_refl _),H2.out.2.2.1.below hb3 (Nat.le_refl _),hlv,H2.out.2.2.2.2.1.trans (hb3.mono H2.out.2.2.2.2.1.size),H2.out.2.2.2.2.2.1,H2.out.2.2.2.2.2.2,hg1,(World.ownsRow.lt H2.out.2.2.1 g2 rfl).2,H2.out.2.2.2.2.1⟩
 subst hq
 obtain ⟨q,hqq⟩:∃ q,L.length=q:=⟨_,rfl⟩
 rw [hqq] at H3 ⊢
 have HS:Hid (w2.heap.size≤w3.heap.size):=hb3.size
 have HW12:Hid (w.heap.size≤w2.heap.size):=H2.out.2.2.2.2.1.size
 clear hQ hlv hb3 H2 hg1
 go_wp2_with fail
 refine (rthrough_walk a n c la b m d lb w3 (HA.out w3 (H3.out.2.2.2.1.mono HB.out.1.bz)).1 (HA.out w3 (H3.out.2.2.2.1.mono HB.out.1.bz)).2 HN.out.1 HN.out.2.1 (by have:=HN.out;omega) (by have:=HN.out;omega)).mono ?_
 intro e w4 hQ
 obtain ⟨rv,rfl,hrv,hb4⟩:=HTH.out w3 e w4 hQ
 obtain ⟨p1,p3,hp⟩:=row_nilK hrv
 subst hp
 rw [hqq] at hrv ⊢
 have H4:Hid (OwnK w4 w.heap.size (.slice (some ⟨g1,0,none⟩) (n+2) c1) (la++[(-77,0,0,0),(0,0,0,-78)])∧OwnK w4 w1.heap.size (.slice (some ⟨g2,0,none⟩) (m+2) c2) (lb++[(-77,0,0,0),(0,0,0,-78)])∧OwnK w4 w2.heap.size (.slice q1 q q3) L∧OwnK w4 w3.heap.size (.slice p1 q p3) L∧Below w.heap.size w w4):=⟨H3.out.1.below hb4 (Nat.le_refl _),H3.out.2.1.below hb4 (Nat.le_refl _),H3.out.2.2.1.below hb4 (Nat.le_refl _),hrv,H3.out.2.2.2.1.trans (hb4.mono H3.out.2.2.2.1.size)⟩
 have hB4:Hid (Bok w4 base hb ov wv es f u es.length):=HB.out.1.below H4.out.2.2.2.2 (Nat.le_refl _)
 have H5:Hid (∀ b,Value.ownBlock (.slice q1 q q3)=some b→b ∉ blksO es):=fun b hb'=>by
  have h1:=(World.ownsRow.lt H4.out.2.2.1 b hb').1
  have h2:=H3.out.2.2.2.2.2.2.2.2.size
  exact blks_size HB.out.1 (by omega)
 have H6:Hid (w.heap.size≤g1∧g1<w2.heap.size∧w.heap.size≤g2∧g2<w2.heap.size∧w2.heap.size≤w4.heap.size∧base≤w.heap.size):=by
  have h1:=(World.ownsRow.lt H4.out.1 g1 rfl).1
  have h2:=(World.ownsRow.lt H4.out.2.1 g2 rfl).1
  obtain ⟨_,_,_,_,h3,h4,h5,h6,_⟩:=H3.out
  have h7:=hb4.size
  have h8:w2.heap.size≤w3.heap.size:=HS.out
  have h9:=HB.out.1.bz
  exact ⟨h1,by omega,by omega,h6,by omega,h9⟩
 clear hQ hrv hb4 HS H3
 go_wp2_with fail
 refine (keep_any base hb ov wv es f u (.slice q1 q q3) L w4 hB4.out (H4.out.2.2.1.le (by have:=H6.out;have:=HW12.out;omega)) H5.out (by have:=HN.out;omega) HB.out.2.1).mono ?_
 rintro e w5 ⟨⟨xr,rfl⟩,ov5,wv5,mv,hB5,hT5,hbl5,_,_,hmv⟩
 obtain ⟨es5,hes5⟩:∃ es5,es5=es++[(⟨.slice q1 q q3,mv,L⟩:BE)]:=⟨_,rfl⟩
 have HE5:Hid (es5.length=es.length+1∧∀ e∈es5,e.l.length≤N):=by
  refine ⟨by rw [hes5];simp,fun e he => ?_⟩
  rw [hes5] at he
  rcases List.mem_append.1 he with he | he
  · exact HB.out.2.2 e he
  · obtain rfl:=List.mem_singleton.1 he
    exact HN.out.2.2.2.2.2
 have hnot:∀ g,w.heap.size≤g→g<w2.heap.size→g ∉ blksO es5:=fun g k1 k2 hg=>by
  rw [hes5] at hg
  obtain ⟨e,he,ho⟩:=blks_mem.1 hg
  rcases List.mem_append.1 he with he | he
  · exact blks_size HB.out.1 k1 (blks_mem.2 ⟨e,he,ho⟩)
  · obtain rfl:=List.mem_singleton.1 he
    rcases ho with ho | ho
    · have:=(World.ownsRow.lt H4.out.2.2.1 g ho).1
      omega
    · have:=hmv g ho
      have:=H6.out
      omega
 have o1:=Tch.own hB4.out hT5 H4.out.1
 have o2:=Tch.own hB4.out hT5 H4.out.2.1
 have o3:=Tch.own hB4.out hT5 H4.out.2.2.1
 have o4:=Tch.own hB4.out hT5 H4.out.2.2.2.1
 have HQ:Hid (Q16 w base hb ov5 wv5 es5 f u g1 n g2 m w5):=by
  have h6:=H6.out
  refine ⟨?_,lies_own o1 (by simp;have:=HN.out;omega),lies_own o2 (by simp;have:=HN.out;omega),by omega,by omega,hnot g1 h6.1 h6.2.1,hnot g2 h6.2.2.1 h6.2.2.2.1,(H4.out.2.2.2.2.mono h6.2.2.2.2.2).trans hbl5⟩
  rw [HE5.out.1,hes5]
  exact hB5
 have HLw:=Hid.mk2 (HLK.out w5 o1 o2)
 have HS5:Hid (Calls Tryz.prog 24 #[.slice q1 q q3,.slice p1 q p3] w5 fun e w'=>e = .returned (.bool true)∧Grown w5 w'):=(numbersK _ _ L L w5 o3.kr o4.kr (by have:=HN.out;omega)).mono fun e w' ⟨k1,k2⟩=>⟨by rw [k1];simp,k2⟩
 clear hB5 hT5 hbl5 hmv hes5 hnot o1 o2 o3 o4 H4 H5 H6 hB4 HLK HTH HF hqq
 go_wp2_with fail
 refine HS5.out.mono ?_
 rintro e w6 ⟨rfl,hg6⟩
 have HQ6:=Hid.mk2 (HQ.out.below hg6.below)
 have HL6:Hid (LK w6 w.heap.size (.slice (some ⟨g1,0,none⟩) n c1) la∧LK w6 w1.heap.size (.slice (some ⟨g2,0,none⟩) m c2) lb):=⟨HLw.out.1.below hg6.below (Nat.le_refl _),HLw.out.2.below hg6.below (Nat.le_refl _)⟩
 clear HQ HLw HS5 hg6
 go_wp2_with fail
 refine (still_any _ a n c la w.heap.size w6 HL6.out.1 (HA.out w6 HQ6.out.bel).1 HN.out.1 (by have:=HN.out;omega)).mono ?_
 rintro e w7 ⟨rfl,hb7⟩
 have HQ7:=Hid.mk2 (HQ6.out.below hb7)
 have HL7:=Hid.mk2 (HL6.out.2.below hb7 (Nat.le_refl _))
 clear HQ6 HL6 hb7
 go_wp2_with fail
 refine (still_any _ b m d lb w1.heap.size w7 HL7.out (HA.out w7 HQ7.out.bel).2 HN.out.2.1 (by have:=HN.out;omega)).mono ?_
 rintro e w8 ⟨rfl,hb8⟩
 have HQ8:=Hid.mk2 (HQ7.out.below hb8)
 clear HQ7 HL7 hb8
 go_wp2
 go_loopw [55] (fun vk wr=>∃ k:Nat,vk = .int .i64 k∧k≤n∧Hid (Q16 w base hb ov5 wv5 es5 f u g1 n g2 m wr)) (fun vk _=>n - (intOf vk).toNat)
 case atStart=>exact ⟨0,rfl,Nat.zero_le _,HQ8⟩
 case round=>
  obtain ⟨k,rfl,hk,HW⟩:=hrel
  clear HQ8
  have hkp:(0:Int)≤(k:Int):=by omega
  by_cases hkl:k<n
  · as_aux_lemma=>
     have hkl':(k:Int)<(n:Int):=by omega
     obtain ⟨⟨y0,u0⟩,v0,⟨y1,u1⟩,v1,⟨y2,u2⟩,v2,⟨y3,u3⟩,v3⟩:=HW.out.l1.four hkl 5 0 0
     have HM:=Hid.mk2 (HW.out.set1 (k*4) (5,0,0,0))
     clear HW
     go_wp2
     exact ⟨⟨k+1,by go_num,by omega,HM⟩,by simp [intOf];omega⟩
  · as_aux_lemma=>
     have hge:¬ (k:Int)<(n:Int):=by omega
     go_wp2
     go_loopw [65] (fun vk wr=>∃ k:Nat,vk = .int .i64 k∧k≤m∧Hid (Q16 w base hb ov5 wv5 es5 f u g1 n g2 m wr)) (fun vk _=>m - (intOf vk).toNat)
     case atStart=>exact ⟨0,rfl,Nat.zero_le _,HW⟩
     case round=>
      obtain ⟨k',rfl,hk',HW'⟩:=hrel
      clear HW
      have hkp':(0:Int)≤(k':Int):=by omega
      by_cases hkl':k'<m
      · as_aux_lemma=>
         have hkl2:(k':Int)<(m:Int):=by omega
         obtain ⟨⟨y0,u0⟩,v0,⟨y1,u1⟩,v1,⟨y2,u2⟩,v2,⟨y3,u3⟩,v3⟩:=HW'.out.l2.four hkl' 6 0 0
         have HM:=Hid.mk2 (HW'.out.set2 (k'*4) (6,0,0,0))
         clear HW'
         go_wp2
         exact ⟨⟨k'+1,by go_num,by omega,HM⟩,by simp [intOf];omega⟩
      · as_aux_lemma=>
         have hge2:¬ (k':Int)<(m:Int):=by omega
         go_wp2_with fail
         refine (holds_any base hb _ _ _ _ _ _ _ HW'.out.bk).mono ?_
         rintro e w9 ⟨rfl,hg9⟩
         have HQ9:=Hid.mk2 (HW'.out.below hg9.below)
         clear HW' hg9
         go_wp2
         go_ret
         exact ⟨rfl,ov5,wv5,es5,HQ9.out.bk,HE5.out.1,HE5.out.2,HQ9.out.bel⟩
def PJ (w3:World) (k f N:Nat) (W:World):Prop:=
 (∃ ov wv es,Bok W w3.heap.size w3.heap.size ov wv es f f es.length∧es.length=k∧∀ e∈es,e.l.length≤N)∧Below w3.heap.size w3 W
theorem PJ.start (w3:World):PJ w3 0 0 300000 (w3.alloc (.cells #[.slice none 0 0,.slice none 0 0,.int .i64 0] 29)):=by
 refine ⟨⟨.slice none 0 0,.slice none 0 0,[],⟨?_,Nat.le_refl _,World.ownsRow_nil _ _ _ _,World.ownsRow_nil _ _ _ _,fun e he=>(by cases he),fun e he=>(by cases he),fun i j e e' b h=>(by simp at h),fun i j e e' b _ h=>(by simp at h),.inl rfl,(by simp),fun e he=>(by cases he),Nat.le_refl _⟩,rfl,fun e he=>(by cases he)⟩,(Below.refl _ _).alloc (Nat.le_refl _) _⟩
 exact heap_alloc_new _ _
theorem PJ.through {w3:World} (a:Option Addr) (n c:Nat) (la:List Bk) (b:Option Addr) (m d:Nat) (lb:List Bk) (hA:KR w3 (.slice a n c) la) (hB:KR w3 (.slice b m d) lb) (hn:la.length=n) (hm:lb.length=m) (hnN:n≤300000) (hmN:m≤300000) (hFa:Value.slice a n c = .slice none 0 0∨∃ ad n' c',Value.slice a n c = .slice (some ad) n' c') (hFb:Value.slice b m d = .slice none 0 0∨∃ ad n' c',Value.slice b m d = .slice (some ad) n' c') {k f N:Nat} (hk:k≤90) (h1:300000≤N) (h2:N≤700000) {W:World} (h:PJ w3 k f N W) :
 Calls Tryz.prog 16 #[.pointer (some ⟨w3.heap.size,0,none⟩),.slice a n c,.slice b m d] W fun e w'=>e = .returned (.bool true)∧PJ w3 (k+1) f N w':=by
 obtain ⟨⟨ov,wv,es,hK,hl,hs⟩,hW⟩:=h
 refine (throughL_any w3.heap.size w3.heap.size ov wv es f f N a n c la b m d lb W hK (by omega) (by omega) hs (fun W' t=>⟨hA.below (hW.trans t) (Nat.le_refl _),hB.below (hW.trans t) (Nat.le_refl _)⟩) hn hm (by omega) (by omega) hFa hFb).mono ?_
 rintro e w' ⟨rfl,ov',wv',es',g1,g2,g3,g4⟩
 exact ⟨rfl,⟨ov',wv',es',g1,by omega,g3⟩,hW.trans g4⟩
theorem PJ.write {w3:World} {k f N:Nat} (hk:k≤40) (h2:N≤700000) {W:World} (h:PJ w3 k f N W) :
 Calls Tryz.prog 9 #[.pointer (some ⟨w3.heap.size,0,none⟩)] W fun e w'=>e = .returned (.bool true)∧∃ k',k'≤2*k∧PJ w3 k' k' (N+30) w':=by
 obtain ⟨⟨ov,wv,es,hB,hl,hs⟩,hW⟩:=h
 refine (writeB_any w3.heap.size w3.heap.size ov wv es f N W hB (by omega) (by omega) hs).mono ?_
 rintro e w' ⟨rfl,ov',wv',es',g1,g2,g3,g4⟩
 exact ⟨rfl,es'.length,by omega,⟨ov',wv',es',g1,rfl,g3⟩,hW.trans g4⟩
set_option maxHeartbeats 8000000 in
theorem throughLaw_any (a:Option Addr) (n c:Nat) (la:List Bk) (b:Option Addr) (m d:Nat) (lb:List Bk) (w:World) (hT:Tab w) (hz:0<w.heap.size) (hA:KR w (.slice a n c) la) (hB:KR w (.slice b m d) lb) (hn:la.length=n) (hm:lb.length=m) (hnN:n≤300000) (hmN:m≤300000) (hFa:Value.slice a n c = .slice none 0 0∨∃ ad n' c',Value.slice a n c = .slice (some ad) n' c') (hFb:Value.slice b m d = .slice none 0 0∨∃ ad n' c',Value.slice b m d = .slice (some ad) n' c') :
 Calls Tryz.prog 5 #[.slice a n c,.slice b m d] w fun e w'=>e = .returned (.bool true)∧Below w.heap.size w w':=by
 have H7:=Hid.mk' (shown9 w hT hz)
 have HL:Hid (∀ w3,Below w.heap.size w w3→∀ k f N W,k≤90→300000≤N→N≤700000→PJ w3 k f N W→Calls Tryz.prog 16 #[.pointer (some ⟨w3.heap.size,0,none⟩),.slice a n c,.slice b m d] W fun e w'=>e = .returned (.bool true)∧PJ w3 (k+1) f N w'):=fun w3 h3 k f N W x y z p=>PJ.through a n c la b m d lb (hA.below h3 (Nat.le_refl _)) (hB.below h3 (Nat.le_refl _)) hn hm hnN hmN hFa hFb x y z p
 have HM:Hid (∀ w3,Below w.heap.size w w3→∀ k f N W,k≤90→300000≤N→N≤700000→PJ w3 k f N W→Calls Tryz.prog 16 #[.pointer (some ⟨w3.heap.size,0,none⟩),.slice b m d,.slice a n c] W fun e w'=>e = .returned (.bool true)∧PJ w3 (k+1) f N w'):=fun w3 h3 k f N W x y z p=>PJ.through b m d lb a n c la (hB.below h3 (Nat.le_refl _)) (hA.below h3 (Nat.le_refl _)) hm hn hmN hnN hFb hFa x y z p
 clear hT hz hA hB hn hm hnN hmN hFa hFb
 go_enter Tryz.func5,Tryz.ntmps5
 go_wp2_with fail
 refine H7.out.mono ?_
 rintro e w3 ⟨rfl,hb3⟩
 have HR3:=Hid.mk' hb3
 clear hb3 H7
 have HP0:=Hid.mk' (PJ.start w3)
 go_upto_region 4 with fail
 obtain ⟨w4,hw4⟩:∃ w4,w4=w3.alloc (.cells #[.slice none 0 0,.slice none 0 0,.int .i64 0] 29):=⟨_,rfl⟩
 rw [←hw4] at HP0 ⊢
 clear hw4
 have M1:=Hid.mk' (HL.out w3 HR3.out)
 have M2:=Hid.mk' (HM.out w3 HR3.out)
 have HFin:Hid (∀ k f N W,PJ w3 k f N W→Below w.heap.size w W):=fun k f N W p=>HR3.out.trans (p.2.mono HR3.out.size)
 clear HL HM HR3
 go_wp2_with fail
 refine (M1.out _ _ _ _ (by omega) (by omega) (by omega) HP0.out).mono ?_
 rintro e w10 ⟨rfl,hP⟩
 have HP1:=Hid.mk' hP
 clear hP HP0
 go_wp2_with fail
 refine (M1.out _ _ _ _ (by omega) (by omega) (by omega) HP1.out).mono ?_
 rintro e w11 ⟨rfl,hP⟩
 have HP2:=Hid.mk' hP
 clear hP HP1
 go_wp2_with fail
 refine (M2.out _ _ _ _ (by omega) (by omega) (by omega) HP2.out).mono ?_
 rintro e w12 ⟨rfl,hP⟩
 have HP3:=Hid.mk' hP
 clear hP HP2
 go_wp2_with fail
 refine (PJ.write (by omega) (by omega) HP3.out).mono ?_
 rintro e w13 ⟨rfl,k',hk',hP⟩
 have HP4:=Hid.mk' hP
 clear hP HP3
 go_wp2_with fail
 refine (M1.out _ _ _ _ (by omega) (by omega) (by omega) HP4.out).mono ?_
 rintro e w14 ⟨rfl,hP⟩
 have HP5:=Hid.mk' hP
 clear hP HP4
 go_wp2_with fail
 refine (PJ.write (by omega) (by omega) HP5.out).mono ?_
 rintro e w15 ⟨rfl,k2,_,hP⟩
 have HP6:=Hid.mk' hP
 clear hP HP5
 go_wp2
 go_ret
 exact ⟨rfl,HFin.out _ _ _ _ HP6.out⟩
end Go.Proofs
