/-
  Several texts in one (Qb Je Jg Ta Tb Tc Tf Tg).
-/
import Derived.RangeFuncNested
import Derived.RangeFuncBound
import Derived.RangeFuncCalls
import Derived.RangeFuncLeaves
import Derived.Shelf.Abstract
import Derived.Shelf.RegionOpen
import Derived.WalkKit
import Derived.WalkSpells
import Derived.WalkLawsBesides
import Derived.OwnWalkIn
import Derived.TacticsInMore
import Derived.LoopNIn
import Derived.LoopIn
import Derived.BigQuiet
import Derived.RegionIn
import Derived.Deep.QuietTactic
import Derived.Deep.RegionWith
import Derived.Lib.OthersKept
import Derived.Maps.AppendAt
import Derived.Lib.SmallJoins
import Derived.Shelf.SlSortCmp.QuietGrown
import Derived.Test.YtcfcjljapamcoaaGreatDoorMglx
import Derived.Test.YtcfcjljapamcoaaGreatDoorMppx
import Derived.Test.YtcfcjljapamcoaaGreatDoorMpqx
import Derived.Deep.Upon
import Derived.Laws.CopyRow
import Derived.Laws.IdiomCopy
import Derived.Test.YtcfcjljapamcoaaGreatDoorMpex
import Derived.Lib.RuneCountTail
import Derived.Test.YtcfcjljapamcoaaGreatDoorTex
import Derived.Test.YtcfcjljapamcoaaGreatDoorMgcx
namespace Go.Proofs
open Go.RowKit Go.Shelf
set_option maxRecDepth 100000
attribute [local go_sem] Oper.semAt_some
attribute [local go_sem ↓] Go.wp_at_zero Go.wp_at_succ
set_option maxHeartbeats 4000000 in
theorem rcheck_early (bg en:Bool) (cu:Int) (aa ka pa ra:Option Addr) (an ac kn kc pn pc rn rc:Nat) (w:World) (h:kn=0∨8<kn∨8<an∨8<pn∨16<rn) :
 Calls Tryz.prog 84 #[.agg #[.bool bg,.slice aa an ac,.slice ka kn kc,.slice pa pn pc,.bool en,.slice ra rn rc,.int .i64 cu]] w fun e w'=>e = .returned (.int .i64 (if kn=0∨8<kn then 70 else 72))∧Grown w w':=by
 by_cases h1:kn=0
 · rw [if_pos (.inl h1)]
   subst h1
   clear h
   go_enter Tryz.func84,Tryz.ntmps84
   go_wp2
   go_ret
   exact ⟨rfl,(Grown.refl _).alloc _⟩
 · have e1:decide ((kn:Int)<1)=false:=by simp;omega
   have e1':¬ (kn:Int)<1:=by omega
   by_cases h2:8<kn
   · rw [if_pos (.inr h2)]
     have h2':(8:Int)<(kn:Int):=by omega
     clear h
     go_enter Tryz.func84,Tryz.ntmps84
     go_wp2
     go_ret
     exact ⟨rfl,(Grown.refl _).alloc _⟩
   · rw [if_neg (by omega)]
     have d2':¬ (8:Int)<(kn:Int):=by omega
     by_cases h3:8<an
     · have h3':(8:Int)<(an:Int):=by omega
       clear h
       go_enter Tryz.func84,Tryz.ntmps84
       go_wp2
       go_ret
       exact ⟨rfl,(Grown.refl _).alloc _⟩
     · have d3':¬ (8:Int)<(an:Int):=by omega
       by_cases h4:8<pn
       · have h4':(8:Int)<(pn:Int):=by omega
         clear h
         go_enter Tryz.func84,Tryz.ntmps84
         go_wp2
         go_ret
         exact ⟨rfl,(Grown.refl _).alloc _⟩
       · have d4':¬ (8:Int)<(pn:Int):=by omega
         have h5':(16:Int)<(rn:Int):=by omega
         clear h
         go_enter Tryz.func84,Tryz.ntmps84
         go_wp2
         go_ret
         exact ⟨rfl,(Grown.refl _).alloc _⟩
set_option maxHeartbeats 4000000 in
theorem rcheck_sets (r:Rl) (aa ka pa ra:Option Addr) (an ac kn kc pn pc rn rc:Nat) (w:World) (h:RR w (.slice aa an ac) (.slice ka kn kc) (.slice pa pn pc) (.slice ra rn rc) r)
 (h1:kn≠0) (h2:kn≤8) (h3:an≤8) (h4:pn≤8) (h5:rn≤16) (hb:(r.ante.all okS && r.key.all okS && r.post.all okS)=false) (ha:an=r.ante.length) (hk:kn=r.key.length) (hp:pn=r.post.length) :
 Calls Tryz.prog 84 #[.agg #[.bool r.bg,.slice aa an ac,.slice ka kn kc,.slice pa pn pc,.bool r.en,.slice ra rn rc,.int .i64 r.cu]] w fun e w'=>e = .returned (.int .i64 71)∧Grown w w':=by
 have HA:Hid (∀ W,Grown w W→Calls Tryz.prog 112 #[.slice aa an ac] W fun e w'=>e = .returned (.bool (r.ante.all okS))∧Grown W w'):=fun W hW=>rsets_any _ _ W (h.a.grown hW) (by omega)
 have HK:Hid (∀ W,Grown w W→Calls Tryz.prog 112 #[.slice ka kn kc] W fun e w'=>e = .returned (.bool (r.key.all okS))∧Grown W w'):=fun W hW=>rsets_any _ _ W (h.k.grown hW) (by omega)
 have HP:Hid (∀ W,Grown w W→Calls Tryz.prog 112 #[.slice pa pn pc] W fun e w'=>e = .returned (.bool (r.post.all okS))∧Grown W w'):=fun W hW=>rsets_any _ _ W (h.p.grown hW) (by omega)
 generalize r.ante.all okS=b1 at HA hb
 generalize r.key.all okS=b2 at HK hb
 generalize r.post.all okS=b3 at HP hb
 obtain ⟨bg,en,cu,ante,key,post,res⟩:=r
 simp only
 clear ha hk hp h
 have e1:¬ (kn:Int)<1:=by omega
 have d2':¬ (8:Int)<(kn:Int):=by omega
 have d3':¬ (8:Int)<(an:Int):=by omega
 have d4':¬ (8:Int)<(pn:Int):=by omega
 have d5':¬ (16:Int)<(rn:Int):=by omega
 clear h2 h3 h4 h5
 cases b1 with
 | false=>
  go_enter Tryz.func84,Tryz.ntmps84
  go_wp2_with fail
  refine (HA.out _ ((Grown.refl _).alloc _)).mono ?_
  rintro e w1 ⟨rfl,hb1⟩
  go_wp2
  go_ret
  exact ⟨rfl,((Grown.refl _).alloc _).trans hb1⟩
 | true=>
  cases b2 with
  | false=>
   go_enter Tryz.func84,Tryz.ntmps84
   go_wp2_with fail
   refine (HA.out _ ((Grown.refl _).alloc _)).mono ?_
   rintro e w1 ⟨rfl,hb1⟩
   have hc2:=fun j v h=>hb1.cellv (a:=⟨w.heap.size,j,none⟩) (v:=v) h
   have g2:=hc2 2 (.slice ka kn kc) (by simp)
   go_wp2_with fail
   refine (HK.out _ (((Grown.refl _).alloc _).trans hb1)).mono ?_
   rintro e w2 ⟨rfl,hb2⟩
   go_wp2
   go_ret
   exact ⟨rfl,(((Grown.refl _).alloc _).trans hb1).trans hb2⟩
  | true=>
   obtain rfl:b3=false:=by simpa using hb
   go_enter Tryz.func84,Tryz.ntmps84
   go_wp2_with fail
   refine (HA.out _ ((Grown.refl _).alloc _)).mono ?_
   rintro e w1 ⟨rfl,hb1⟩
   have hc2:=fun j v h=>hb1.cellv (a:=⟨w.heap.size,j,none⟩) (v:=v) h
   have g2:=hc2 2 (.slice ka kn kc) (by simp)
   have g3:=hc2 3 (.slice pa pn pc) (by simp)
   go_wp2_with fail
   refine (HK.out _ (((Grown.refl _).alloc _).trans hb1)).mono ?_
   rintro e w2 ⟨rfl,hb2⟩
   have g3:=hb2.cellv g3
   go_wp2_with fail
   refine (HP.out _ ((((Grown.refl _).alloc _).trans hb1).trans hb2)).mono ?_
   rintro e w3 ⟨rfl,hb3⟩
   go_wp2
   go_ret
   exact ⟨rfl,((((Grown.refl _).alloc _).trans hb1).trans hb2).trans hb3⟩
set_option maxHeartbeats 4000000 in
theorem rcheck_tail (r:Rl) (aa ka pa ra:Option Addr) (an ac kn kc pn pc rn rc:Nat) (w:World) (h:RR w (.slice aa an ac) (.slice ka kn kc) (.slice pa pn pc) (.slice ra rn rc) r)
 (h1:kn≠0) (h2:kn≤8) (h3:an≤8) (h4:pn≤8) (h5:rn≤16) (hb1:r.ante.all okS=true) (hb2:r.key.all okS=true) (hb3:r.post.all okS=true) (ha:an=r.ante.length) (hk:kn=r.key.length) (hp:pn=r.post.length) (hr:rn=r.res.length) :
 Calls Tryz.prog 84 #[.agg #[.bool r.bg,.slice aa an ac,.slice ka kn kc,.slice pa pn pc,.bool r.en,.slice ra rn rc,.int .i64 r.cu]] w fun e w'=>e = .returned (.int .i64 (tailE r))∧Grown w w':=by
 have HA:Hid (∀ W,Grown w W→Calls Tryz.prog 112 #[.slice aa an ac] W fun e w'=>e = .returned (.bool true)∧Grown W w'):=fun W hW=>by have:=rsets_any _ _ W (h.a.grown hW) (by omega);rwa [hb1] at this
 have HK:Hid (∀ W,Grown w W→Calls Tryz.prog 112 #[.slice ka kn kc] W fun e w'=>e = .returned (.bool true)∧Grown W w'):=fun W hW=>by have:=rsets_any _ _ W (h.k.grown hW) (by omega);rwa [hb2] at this
 have HP:Hid (∀ W,Grown w W→Calls Tryz.prog 112 #[.slice pa pn pc] W fun e w'=>e = .returned (.bool true)∧Grown W w'):=fun W hW=>by have:=rsets_any _ _ W (h.p.grown hW) (by omega);rwa [hb3] at this
 have HQ:Hid (∀ W,Grown w W→∀ (p:Pc) (tv:Value),Rs W tv p.tl→Calls Tryz.prog 113 #[.agg #[.bool r.bg,.slice aa an ac,.slice ka kn kc,.slice pa pn pc,.bool r.en,.slice ra rn rc,.int .i64 r.cu],.agg #[.int .i64 p.k,.int .i64 p.u,.int .i64 p.y,tv]] W fun e w'=>e = .returned (.int .i64 (pcE r.key p))∧Grown W w'):=fun W hW p tv ht=>rpiece_any r _ _ _ _ p tv W (h.grown hW) ht
 have HR:Hid (rn=r.res.length∧(r.res=[]∨∃ g o,ra=some ⟨g,o,none⟩∧PRd w g o r.res)):=by
  obtain ⟨a',c',e',_,h'⟩:=h.r
  cases e'
  exact ⟨hr,h'⟩
 have HE:Hid (tailE r=if fstE r.key r.res≠0 then fstE r.key r.res else if r.cu<0∨(rn:Int)<r.cu then 76 else 0):=by unfold tailE;rw [hr];rfl
 generalize tailE r=E at HE
 obtain ⟨bg,en,cu,ante,key,post,res⟩:=r
 simp only at HE HR HQ ⊢
 clear ha hk hp h hb1 hb2 hb3 hr
 have e1:¬ (kn:Int)<1:=by omega
 have d2':¬ (8:Int)<(kn:Int):=by omega
 have d3':¬ (8:Int)<(an:Int):=by omega
 have d4':¬ (8:Int)<(pn:Int):=by omega
 have d5':¬ (16:Int)<(rn:Int):=by omega
 have HM:Hid (rn≤16):=h5
 clear h2 h3 h4 h5
 go_enter Tryz.func84,Tryz.ntmps84
 go_wp2_with fail
 refine (HA.out _ ((Grown.refl _).alloc _)).mono ?_
 rintro e w1 ⟨rfl,hb1⟩
 have hc2:=fun j v h=>hb1.cellv (a:=⟨w.heap.size,j,none⟩) (v:=v) h
 have g0:=hc2 0 (.bool bg) (by simp)
 have g1:=hc2 1 (.slice aa an ac) (by simp)
 have g2:=hc2 2 (.slice ka kn kc) (by simp)
 have g3:=hc2 3 (.slice pa pn pc) (by simp)
 have g4:=hc2 4 (.bool en) (by simp)
 have g5:=hc2 5 (.slice ra rn rc) (by simp)
 have g6:=hc2 6 (.int .i64 cu) (by simp)
 go_wp2_with fail
 refine (HK.out _ (((Grown.refl _).alloc _).trans hb1)).mono ?_
 rintro e w2 ⟨rfl,hb2⟩
 have k0:=hb2.cellv g0
 have k1:=hb2.cellv g1
 have k2:=hb2.cellv g2
 have g3:=hb2.cellv g3
 have k4:=hb2.cellv g4
 have k5:=hb2.cellv g5
 have k6:=hb2.cellv g6
 clear hc2 g0 g1 g2 g4 g5 g6
 go_wp2_with fail
 refine (HP.out _ ((((Grown.refl _).alloc _).trans hb1).trans hb2)).mono ?_
 rintro e w3 ⟨rfl,hb3⟩
 have l0:=hb3.cellv k0
 have l1:=hb3.cellv k1
 have l2:=hb3.cellv k2
 have l3:=hb3.cellv g3
 have l4:=hb3.cellv k4
 have l5:=hb3.cellv k5
 have l6:=hb3.cellv k6
 have hm:=mixed
 have hG3:=((((Grown.refl w).alloc (rcells bg (.slice aa an ac) (.slice ka kn kc) (.slice pa pn pc) en (.slice ra rn rc) cu)).trans hb1).trans hb2).trans hb3
 clear k0 k1 k2 k4 k5 k6 g3 hb1 hb2 hb3 HA HK HP
 go_wp2
 go_loopw [3] (fun vi wr=>∃ k:Nat,vi = .int .i64 k∧k≤rn∧Hid (fstE key (res.drop k)=fstE key res)∧Grown w3 wr) (fun vi _=>rn - (intOf vi).toNat)
 case atStart=>exact ⟨0,rfl,by omega,rfl,Grown.refl _⟩
 case round=>
  obtain ⟨k,rfl,hk,hF,hB⟩:=hrel
  have c5:=hB.cellv l5
  have c6:=hB.cellv l6
  have hkI:(0:Int)≤(k:Int):=by omega
  by_cases hlt:k<rn
  · have hlt':(k:Int)<(rn:Int):=by omega
    have hm16:=HM.out
    have hkI2:(k:Int)≤16:=by omega
    have hkl:k<res.length:=by have:=HR.out.1;omega
    obtain ⟨g,o,hra,hP⟩:=HR.out.2.resolve_left (fun e=>by rw [e] at hkl;simp at hkl)
    subst hra
    obtain ⟨tv,p0,p1,p2,p3,hRs⟩:=(hP k hkl).below (hG3.trans hB).below (Nat.le_refl _)
    have HC:Hid (∀ W,Grown wr W→Calls Tryz.prog 113 #[.agg #[.bool bg,.slice aa an ac,.slice ka kn kc,.slice pa pn pc,.bool en,.slice (some ⟨g,o,none⟩) rn rc,.int .i64 cu],.agg #[.int .i64 res[k].k,.int .i64 res[k].u,.int .i64 res[k].y,tv]] W fun e w'=>e = .returned (.int .i64 (pcE key res[k]))∧Grown W w'):=fun W hW=>HQ.out W ((hG3.trans hB).trans hW) res[k] tv (hRs.grown hW)
    have HS:Hid (fstE key (res.drop k)=if pcE key res[k]=0 then fstE key (res.drop (k+1)) else pcE key res[k]):=by show _=_;rw [drop_pc hkl];rfl
    obtain ⟨ta,tn,tc,rfl⟩:=hRs.sl
    generalize pcE key res[k]=q at HC HS
    generalize res[k].k=xk at HC p0
    generalize res[k].u=xu at HC p1
    generalize res[k].y=xy at HC p2
    have n0:∀ m os,(Go.Sort.grow (wr.drewN m) os).cell? ⟨w.heap.size,0,none⟩=some (.bool bg):=fun m os=>(hB.quiet m os).cellv l0
    have n1:∀ m os,(Go.Sort.grow (wr.drewN m) os).cell? ⟨w.heap.size,1,none⟩=some (.slice aa an ac):=fun m os=>(hB.quiet m os).cellv l1
    have n2:∀ m os,(Go.Sort.grow (wr.drewN m) os).cell? ⟨w.heap.size,2,none⟩=some (.slice ka kn kc):=fun m os=>(hB.quiet m os).cellv l2
    have n3:∀ m os,(Go.Sort.grow (wr.drewN m) os).cell? ⟨w.heap.size,3,none⟩=some (.slice pa pn pc):=fun m os=>(hB.quiet m os).cellv l3
    have n4:∀ m os,(Go.Sort.grow (wr.drewN m) os).cell? ⟨w.heap.size,4,none⟩=some (.bool en):=fun m os=>(hB.quiet m os).cellv l4
    have n5:∀ m os,(Go.Sort.grow (wr.drewN m) os).cell? ⟨w.heap.size,5,none⟩=some (.slice (some ⟨g,o,none⟩) rn rc):=fun m os=>(hB.quiet m os).cellv l5
    have n6:∀ m os,(Go.Sort.grow (wr.drewN m) os).cell? ⟨w.heap.size,6,none⟩=some (.int .i64 cu):=fun m os=>(hB.quiet m os).cellv l6
    have m0:∀ m os,(Go.Sort.grow (wr.drewN m) os).cell? ⟨g,o+k*4,none⟩=some (.int .i64 xk):=fun m os=>((Grown.refl _).quiet m os).cellv p0
    have m1:∀ m os,(Go.Sort.grow (wr.drewN m) os).cell? ⟨g,o+k*4+1,none⟩=some (.int .i64 xu):=fun m os=>((Grown.refl _).quiet m os).cellv p1
    have m2:∀ m os,(Go.Sort.grow (wr.drewN m) os).cell? ⟨g,o+k*4+2,none⟩=some (.int .i64 xy):=fun m os=>((Grown.refl _).quiet m os).cellv p2
    have m3:∀ m os,(Go.Sort.grow (wr.drewN m) os).cell? ⟨g,o+k*4+3,none⟩=some (.slice ta tn tc):=fun m os=>((Grown.refl _).quiet m os).cellv p3
    clear p0 p1 p2 p3 c6
    by_cases hq:q=0
    · subst hq
      have HF2:Hid (fstE key (res.drop (k+1))=fstE key res):=by
       have h:=HS.out
       rw [if_pos rfl,hF.out] at h
       exact h.symm
      clear hRs HS hF hP
      go_wp2
      refine wp_region_quiet_grown hm (by kernel_rfl) ?_
      repeat (go_big_quiet_step ((go_at_call 113;exact grown_of (HC.out _ ((Grown.refl _).quiet _ _)))))
      refine wpQuiet_nil ?_
      intro _ hw'
      obtain ⟨⟨nq,osq⟩,hw''⟩:=hw'
      subst hw''
      go_wp2
      exact ⟨⟨k+1,by go_num,by omega,HF2,hB.quiet _ _⟩,by simp [intOf];omega⟩
    · have hq':(q != 0)=true:=by simpa using hq
      have HF2:Hid (E=q):=by
       have h:=HS.out
       rw [if_neg hq,hF.out] at h
       have h2:=HE.out
       rw [if_pos (by rw [h];exact hq),h] at h2
       exact h2
      clear hRs HS hF hP
      go_wp2
      refine wp_region_quiet_grown hm (by kernel_rfl) ?_
      repeat (go_big_quiet_step ((go_at_call 113;exact grown_of (HC.out _ ((Grown.refl _).quiet _ _)))))
      refine wpQuiet_nil ?_
      intro _ hw'
      obtain ⟨⟨nq,osq⟩,hw''⟩:=hw'
      subst hw''
      go_wp2
      go_ret
      exact ⟨by rw [HF2.out];rfl,hG3.trans (hB.quiet _ _)⟩
  · have hge:¬ (k:Int)<(rn:Int):=by omega
    have HE2:Hid (E=if cu<0∨(rn:Int)<cu then 76 else 0):=by
     have h:=hF.out
     rw [List.drop_eq_nil_of_le (by have:=HR.out.1;omega)] at h
     have h2:=HE.out
     rw [if_neg (by rw [←h];simp [fstE])] at h2
     exact h2
    clear hF
    by_cases u1:cu<0
    · have HE3:Hid (E=76):=by have:=HE2.out;rwa [if_pos (.inl u1)] at this
      go_wp2
      go_ret
      exact ⟨by rw [HE3.out];rfl,hG3.trans hB⟩
    · have d6:decide (cu<0)=false:=by simpa using u1
      by_cases u2:(rn:Int)<cu
      · have HE3:Hid (E=76):=by have:=HE2.out;rwa [if_pos (.inr u2)] at this
        go_wp2
        go_ret
        exact ⟨by rw [HE3.out];rfl,hG3.trans hB⟩
      · have d7:decide ((rn:Int)<cu)=false:=by simpa using u2
        have HE3:Hid (E=0):=by have:=HE2.out;rwa [if_neg (by omega)] at this
        go_wp2
        go_ret
        exact ⟨by rw [HE3.out];rfl,hG3.trans hB⟩
theorem rcheck_any (r:Rl) (av kv pv rv:Value) (w:World) (h:RR w av kv pv rv r):Calls Tryz.prog 84 #[.agg #[.bool r.bg,av,kv,pv,.bool r.en,rv,.int .i64 r.cu]] w fun e w'=>e = .returned (.int .i64 (chk r))∧Grown w w':=by
 have hh:=h
 obtain ⟨⟨aa,ac,rfl,_⟩,⟨ka,kc,rfl,_⟩,⟨pa,pc,rfl,_⟩,⟨ra,rc,rfl,_⟩⟩:=h
 by_cases h1:r.key.length=0∨8<r.key.length∨8<r.ante.length∨8<r.post.length∨16<r.res.length
 · have:=rcheck_early r.bg r.en r.cu aa ka pa ra r.ante.length ac r.key.length kc r.post.length pc r.res.length rc w h1
   have e:chk r=if r.key.length=0∨8<r.key.length then 70 else 72:=by
    unfold chk
    by_cases h2:r.key.length=0∨8<r.key.length
    · rw [if_pos h2,if_pos h2]
    · rw [if_neg h2,if_neg h2,if_pos (by omega)]
   rw [e];exact this
 · by_cases hb:(r.ante.all okS && r.key.all okS && r.post.all okS)=false
   · have e:chk r=71:=by unfold chk;rw [if_neg (by omega),if_neg (by omega),if_pos hb]
     rw [e]
     exact rcheck_sets r aa ka pa ra _ ac _ kc _ pc _ rc w hh (by omega) (by omega) (by omega) (by omega) (by omega) hb rfl rfl rfl
   · have e:chk r=tailE r:=by unfold chk;rw [if_neg (by omega),if_neg (by omega),if_neg hb];rfl
     rw [e]
     simp only [Bool.not_eq_false,Bool.and_eq_true] at hb
     exact rcheck_tail r aa ka pa ra _ ac _ kc _ pc _ rc w hh (by omega) (by omega) (by omega) (by omega) (by omega) hb.1.1 hb.1.2 hb.2 rfl rfl rfl rfl
def FarI (w:World) (base:Nat) (v:Value) (l:List Int):Prop:=∃ a c,v = .slice a l.length c∧l.length≤c∧(l=[]∨∃ g o,a=some ⟨g,o,none⟩∧base≤g∧IRd w g o l)
theorem FarI.ir {w:World} {base:Nat} {v:Value} {l:List Int} (h:FarI w base v l):IR w v l:=by
 obtain ⟨a,c,rfl,hc,h⟩:=h
 refine ⟨a,c,rfl,hc,?_⟩
 rcases h with h | ⟨g,o,h1,_,h3⟩
 · exact .inl h
 · exact .inr ⟨g,o,h1,h3⟩
theorem FarI.le {w:World} {base base':Nat} {v:Value} {l:List Int} (h:FarI w base v l) (hb:base'≤base):FarI w base' v l:=by
 obtain ⟨a,c,rfl,hc,h⟩:=h
 refine ⟨a,c,rfl,hc,?_⟩
 rcases h with h | ⟨g,o,h1,h2,h3⟩
 · exact .inl h
 · exact .inr ⟨g,o,h1,Nat.le_trans hb h2,h3⟩
theorem FarI.below {w w':World} {base n:Nat} {v:Value} {l:List Int} (h:FarI w base v l) (hb:Below n w w') (hn:w.heap.size≤n):FarI w' base v l:=by
 obtain ⟨a,c,rfl,hc,h⟩:=h
 refine ⟨a,c,rfl,hc,?_⟩
 rcases h with h | ⟨g,o,h1,h2,h3⟩
 · exact .inl h
 · exact .inr ⟨g,o,h1,h2,h3.below hb hn⟩
theorem OwnI.far {w:World} {base:Nat} {v:Value} {l:List Int} (h:OwnI w base v l):FarI w base v l:=by
 rcases h.2 with ⟨rfl,h0⟩ | ⟨g,cap,cur,rfl,hb,_,hc,_⟩
 · have:l=[]:=List.eq_nil_of_length_eq_zero h0
   subst this
   exact ⟨none,0,rfl,Nat.le_refl _,.inl rfl⟩
 · refine ⟨_,cap,rfl,hc,.inr ⟨g,0,rfl,hb,fun j hj => ?_⟩⟩
   have:=World.ownsRow.cells h rfl j (.int .i64 l[j]) (by simp [ints,hj])
   rw [add_zero_at] at this
   rw [Nat.zero_add]
   exact this
theorem FarI.drop {w:World} {a:Option Addr} {n c cn base:Nat} {l:List Int} (h:FarI w base (.slice a n c) l) (hl:l.length=n) (hcn:cn≤n):FarI w base (.slice (a.map fun x=>x.add cn) (n - cn) (c - cn)) (l.drop cn):=by
 obtain ⟨a',c',e,hc,h⟩:=h
 injection e with e1 e2 e3
 subst e1 e3
 refine ⟨_,c - cn,by rw [List.length_drop,hl],by rw [List.length_drop];omega,?_⟩
 rcases h with rfl | ⟨g,o,rfl,hb,h⟩
 · exact .inl (by simp)
 · refine .inr ⟨g,o+cn,?_,hb,fun j hj => ?_⟩
   · simp only [Option.map_some,Option.some.injEq]
     unfold Addr.add
     split <;> simp_all
   · rw [List.length_drop] at hj
     have:=h (cn+j) (by omega)
     rw [List.getElem_drop,Nat.add_assoc]
     exact this
theorem FarI.take {w:World} {a:Option Addr} {n c cn base:Nat} {l:List Int} (h:FarI w base (.slice a n c) l) (hl:l.length=n) (hcn:cn≤n):FarI w base (.slice a cn cn) (l.take cn):=by
 obtain ⟨a',c',e,hc,h⟩:=h
 injection e with e1 e2 e3
 subst e1 e3
 have ht:(l.take cn).length=cn:=by rw [List.length_take];omega
 refine ⟨_,cn,by rw [ht],by omega,?_⟩
 rcases h with rfl | ⟨g,o,rfl,hb,h⟩
 · exact .inl (by simp)
 · refine .inr ⟨g,o,rfl,hb,fun j hj => ?_⟩
   rw [List.getElem_take]
   exact h j (by omega)
def PcW (W:World) (ka ua:Option Addr) (kn un:Nat) (tv:Value) (p:Pc) (q:Int):Prop:=
 (p.k=1∧p.u=q) ∨
 (p.k=2∧∃ j g o:Nat,p.y=j∧j<un∧ua=some ⟨g,o,none⟩∧W.cell? ⟨g,o+j,none⟩=some (.int .i64 q)) ∨
 (p.k=3∧∃ (j g o kg ko:Nat) (x pl:Int) (b1 b2:Bool) (sv:Value),p.y=j∧j<un∧ua=some ⟨g,o,none⟩∧W.cell? ⟨g,o+j,none⟩=some (.int .i64 x)∧j<kn∧ka=some ⟨kg,ko,none⟩∧W.cell? ⟨kg,ko+j,none⟩=some sv∧IsSl sv ∧
  (∀ W',Grown W W'→Calls Tryz.prog 119 #[sv,.int .i64 x] W' fun e w'=>e = .returned (.tuple #[.int .i64 pl,.bool b1])∧Grown W' w') ∧
  (∀ W',Grown W W'→Calls Tryz.prog 120 #[tv,.int .i64 pl] W' fun e w'=>e = .returned (.tuple #[.int .i64 q,.bool b2])∧Grown W' w'))
theorem nthV_some (x:Option Int):∃ b,nthV x = .tuple #[.int .i64 (x.getD 0),.bool b]:=by
 cases x with
 | none=>exact ⟨false,rfl⟩
 | some z=>exact ⟨true,rfl⟩
theorem pcW_of (p:Pc) (tv:Value) (ka ua:Option Addr) (kn un kc uc:Nat) (key:List (List (Int × Int))) (us:List Int) (W:World) (hk:SR W (.slice ka kn kc) key) (hu:IR W (.slice ua un uc) us) (ht:Rs W tv p.tl) (hp:pcE key p=0) (hl:key.length=us.length):PcW W ka ua kn un tv p (wrt key us p):=by
 obtain ⟨ka',kc',e,_,hk⟩:=hk
 cases e
 obtain ⟨ua',uc',e,_,hu⟩:=hu
 cases e
 rcases pc_ok hp with h1 | h1 | h1
 · refine .inl ⟨h1.1,?_⟩
   unfold wrt
   rw [if_neg (by omega),if_neg (by omega)]
 · obtain ⟨h1,h2,h3,h4,h5⟩:=h1
   obtain ⟨j,hj⟩:∃ j:Nat,p.y=(j:Int):=⟨p.y.toNat,by omega⟩
   obtain ⟨g,o,rfl,hu2⟩:=hu.resolve_left (fun e=>by rw [e] at hl;simp only [List.length_nil] at hl;omega)
   have hju:j<us.length:=by omega
   refine .inr (.inl ⟨h1,j,g,o,hj,hju,rfl,?_⟩)
   rw [hu2 j hju]
   unfold wrt
   rw [if_neg (by omega),if_pos h1,hj]
   simp [unitAt,hju]
 · obtain ⟨h1,h2,h3,h4,h5⟩:=h1
   obtain ⟨j,hj⟩:∃ j:Nat,p.y=(j:Int):=⟨p.y.toNat,by omega⟩
   obtain ⟨g,o,rfl,hu2⟩:=hu.resolve_left (fun e=>by rw [e] at hl;simp only [List.length_nil] at hl;omega)
   obtain ⟨kg,ko,rfl,hk2⟩:=hk.resolve_left (fun e=>by rw [e] at h4;simp only [List.length_nil] at h4;omega)
   have hju:j<us.length:=by omega
   have hjk:j<key.length:=by omega
   obtain ⟨sv,hck,hs⟩:=hk2 j hjk
   have e1:keyAt key (j:Int)=key[j]:=by simp [keyAt,hjk]
   have e2:unitAt us (j:Int)=us[j]:=by simp [unitAt,hju]
   have hw:wrt key us p=partU key[j] p.tl us[j]:=by
    unfold wrt
    rw [if_pos h1,hj,e1,e2]
   obtain ⟨b2,hb2⟩:=nthV_some (nthU p.tl (if hasB key[j] us[j] then placeU key[j] us[j] else 0))
   refine .inr (.inr ⟨h1,j,g,o,kg,ko,us[j],(if hasB key[j] us[j] then placeU key[j] us[j] else 0),hasB key[j] us[j],b2,sv,hj,hju,rfl,hu2 j hju,hjk,rfl,hck,hs.sl,fun W' hW => ?_,fun W' hW => ?_⟩)
   · exact rplace_any sv key[j] us[j] W' (hs.grown hW)
   · have:=rnth_any tv p.tl (if hasB key[j] us[j] then placeU key[j] us[j] else 0) W' (ht.grown hW)
     rw [hb2] at this
     rw [hw]
     exact this
theorem add_at (g o n:Nat):(⟨g,o,none⟩:Addr).add n=⟨g,o+n,none⟩:=by
 unfold Addr.add
 split <;> simp_all
def SomeS (v:Value):Prop:=∃ g o n c,v = .slice (some ⟨g,o,none⟩) n c
set_option maxHeartbeats 8000000 in
theorem rlaid2_walk (r:Rl) (av kv pv rv uv:Value) (us:List Int) (w:World) (h:RR w av kv pv rv r) (hu:IR w uv us) (hb:layB r us=true) :
 Calls Tryz.prog 93 #[.agg #[.bool r.bg,av,kv,pv,.bool r.en,rv,.int .i64 r.cu],uv] w fun e w'=>∃ v1 v2,e = .returned (.tuple #[v1,v2])∧FarI w' w.heap.size v1 ((outs r us).take r.cu.toNat)∧FarI w' w.heap.size v2 ((outs r us).drop r.cu.toNat)∧Below w.heap.size w w'∧SomeS v1∧SomeS v2:=by
 simp only [layB,Bool.and_eq_true,decide_eq_true_eq] at hb
 have hok:=chk_ok hb.1
 have hsl:=st_len hb.2
 obtain ⟨aa,an,ac,rfl⟩:=h.a.sl
 obtain ⟨ka,kn,kc,rfl⟩:=h.k.sl
 obtain ⟨pa,pn,pc,rfl⟩:=h.p.sl
 obtain ⟨ua,un,uc,rfl⟩:=hu.sl
 obtain ⟨ra,rc,rfl,_,_⟩:=h.r
 have HW:Hid (∀ W,Below w.heap.size w W→∀ p∈r.res,∀ tv,Rs W tv p.tl→PcW W ka ua kn un tv p (wrt r.key us p)):=fun W hW p hp tv ht=>
  pcW_of p tv ka ua kn un kc uc r.key us W (h.k.below hW (Nat.le_refl _)) (hu.below hW (Nat.le_refl _)) ht (hok.pc p hp) hsl
 have HR:Hid (∀ W,Below w.heap.size w W→PR W (.slice ra r.res.length rc) r.res):=fun W hW=>h.r.below hW (Nat.le_refl _)
 obtain ⟨rn,hrn⟩:∃ rn,r.res.length=rn:=⟨_,rfl⟩
 rw [hrn] at HR ⊢
 have HN:Hid (r.res.length=rn):=hrn
 have hr16:rn≤16:=by rw [←hrn];exact hok.r16
 obtain ⟨cn,hcn⟩:∃ cn:Nat,r.cu=(cn:Int):=⟨r.cu.toNat,by have:=hok.c0;omega⟩
 have hcr:cn≤rn:=by have:=hok.c1;omega
 rw [hcn]
 have HO:Hid (∀ k (hk:k<r.res.length),(outs r us).take (k+1)=(outs r us).take k++[wrt r.key us r.res[k]]):=fun k hk=>outs_succ hk
 have HL:Hid ((outs r us).length=rn):=by show _=_;rw [←hrn];simp [outs]
 rw [show ((cn:Int)).toNat=cn by omega]
 generalize outs r us=O at HO HL
 generalize hwk:wrt r.key us=wk at HO HW
 obtain ⟨bg,en,cu,ante,key,post,res⟩:=r
 simp only at HR HW HO HN ⊢
 clear h hu hok hb hrn hcn hwk hsl
 have hm:=mixed
 go_enter Tryz.func93,Tryz.ntmps93
 go_wp2
 obtain ⟨w2,hw2⟩:∃ w2:World,w2=w.alloc (rcells bg (.slice aa an ac) (.slice ka kn kc) (.slice pa pn pc) en (.slice ra rn rc) (cn:Int)):=⟨_,rfl⟩
 have d2:w2.cell? ⟨w.heap.size,2,none⟩=some (.slice ka kn kc):=by rw [hw2];simp [rcells]
 have d5:w2.cell? ⟨w.heap.size,5,none⟩=some (.slice ra rn rc):=by rw [hw2];simp [rcells]
 have d6:w2.cell? ⟨w.heap.size,6,none⟩=some (.int .i64 (cn:Int)):=by rw [hw2];simp [rcells]
 have HG2:Hid (Below w.heap.size w w2):=by show Below _ _ _;rw [hw2];exact ((Grown.refl w).alloc _).below
 have HZ:Hid (w2.heap.size=w.heap.size+1):=by show _=_;rw [hw2];simp
 rw [show w.alloc (.cells #[.bool bg,.slice aa an ac,.slice ka kn kc,.slice pa pn pc,.bool en,.slice ra rn rc,.int .i64 (cn:Int)] 60)=w2 from hw2.symm]
 have HB0:Hid (OwnI (w2.alloc (.cells #[] 3)) w2.heap.size (.slice (some ⟨w.heap.size+1,0,none⟩) 0 0) []∧Below w2.heap.size w2 (w2.alloc (.cells #[] 3))):=by
  refine ⟨?_,((Grown.refl w2).alloc _).below⟩
  exact NewI.own ⟨w.heap.size+1,rfl,by rw [HZ.out];exact Nat.le_refl _,by rw [←HZ.out];exact Array.getElem?_push_size⟩ (Nat.zero_le _)
 clear hw2
 go_loopw [6,7] (fun sa vi wr=>∃ (va:Value) (kk:Nat),va=sa∧vi = .int .i64 kk∧kk≤rn∧Hid (OwnI wr w2.heap.size va (O.take kk)∧Below w2.heap.size w2 wr∧(kk=0→SomeS va))) (fun _ vi _=>rn - (intOf vi).toNat)
 case atStart=>exact ⟨_,0,rfl,rfl,Nat.zero_le _,HB0.out.1,HB0.out.2,fun _=>⟨_,_,_,_,rfl⟩⟩
 case round=>
  obtain ⟨va,k,rfl,rfl,hk,HG⟩:=hrel
  have hkI:(0:Int)≤(k:Int):=by omega
  have hkI2:(k:Int)≤16:=by omega
  have e2:=cell_below d2 HG.out.2.1 (Nat.le_refl _)
  have e5:=cell_below d5 HG.out.2.1 (Nat.le_refl _)
  have e6:=cell_below d6 HG.out.2.1 (Nat.le_refl _)
  by_cases hlt:k<rn
  · have hlt':(k:Int)<(rn:Int):=by omega
    have hkl:k<res.length:=by rw [HN.out];exact hlt
    have HBw:Below w.heap.size w wr:=HG2.out.trans (HG.out.2.1.mono HG2.out.size)
    obtain ⟨ra',rc',hre,_,hP⟩:=HR.out wr HBw
    obtain ⟨g,o,hra,hP2⟩:=hP.resolve_left (fun e=>by rw [e] at hkl;simp at hkl)
    cases hre
    subst hra
    obtain ⟨tv,p0,p1,p2,p3,hRs⟩:=hP2 k hkl
    have hPW:=HW.out wr HBw res[k] (List.getElem_mem hkl) tv hRs
    have HOO:Hid (O.take (k+1)=O.take k++[wk res[k]]):=HO.out k hkl
    obtain ⟨ta,tn,tc,rfl⟩:=hRs.sl
    generalize wk res[k]=q at hPW HOO
    unfold PcW at hPW
    generalize res[k].k=xk at hPW p0
    generalize res[k].u=xu at hPW p1
    generalize res[k].y=xy at hPW p2
    have hOl:(O.take k).length+1≤8796093022208:=by rw [List.length_take];omega
    clear hRs hP hP2 HBw
    rcases hPW with ⟨rfl,rfl⟩ | ⟨rfl,j,gu,ou,rfl,hju,rfl,hcu⟩ | ⟨rfl,j,gu,ou,kg,ko,x,pl,b1,b2,sv,rfl,hju,rfl,hcu,hjk,rfl,hck,hsv,hc1,hc2⟩
    · as_aux_lemma=>
       have HP2:Hid (∀ oa ob,OwnI ((wr.alloc oa).alloc ob) w2.heap.size va (O.take k)∧w2.heap.size≤((wr.alloc oa).alloc ob).heap.size∧Below w2.heap.size w2 ((wr.alloc oa).alloc ob)):=fun oa ob=>by
        have hb5:Below wr.heap.size wr ((wr.alloc oa).alloc ob):=(((Grown.refl _).alloc oa).alloc ob).below
        exact ⟨HG.out.1.below hb5 (Nat.le_refl _),Nat.le_trans HG.out.2.1.size hb5.size,HG.out.2.1.trans (hb5.mono HG.out.2.1.size)⟩
       go_wp2_with (at_builtin;go_must (refine push_I rfl _ _ 49 rfl Tryz.underlying49 w2.heap.size _ (O.take k) rfl (HP2.out _ _).1 _ _ xu rfl (by simp) hOl (HP2.out _ _).2.1 ?_;intro v3 w3 hO3 hB3))
       go_roundw
       case rel=>
        refine ⟨_,k+1,rfl,by simp,hlt,?_,(HP2.out _ _).2.2.trans hB3,fun h=>by omega⟩
        rw [HOO.out]
        exact hO3
       case measure=>simp [intOf];omega
    · as_aux_lemma=>
       have HP2:Hid (∀ oa ob,OwnI ((wr.alloc oa).alloc ob) w2.heap.size va (O.take k)∧w2.heap.size≤((wr.alloc oa).alloc ob).heap.size∧Below w2.heap.size w2 ((wr.alloc oa).alloc ob)):=fun oa ob=>by
        have hb5:Below wr.heap.size wr ((wr.alloc oa).alloc ob):=(((Grown.refl _).alloc oa).alloc ob).below
        exact ⟨HG.out.1.below hb5 (Nat.le_refl _),Nat.le_trans HG.out.2.1.size hb5.size,HG.out.2.1.trans (hb5.mono HG.out.2.1.size)⟩
       have hj1:(j:Int)<(un:Int):=by omega
       have hj0:(0:Int)≤(j:Int):=by omega
       have du:=fun o=>cell_up hcu o
       go_wp2_with (at_builtin;go_must (refine push_I rfl _ _ 49 rfl Tryz.underlying49 w2.heap.size _ (O.take k) rfl (HP2.out _ _).1 _ _ q rfl (by simp) hOl (HP2.out _ _).2.1 ?_;intro v3 w3 hO3 hB3))
       go_roundw
       case rel=>
        refine ⟨_,k+1,rfl,by simp,hlt,?_,(HP2.out _ _).2.2.trans hB3,fun h=>by omega⟩
        rw [HOO.out]
        exact hO3
       case measure=>simp [intOf];omega
    · as_aux_lemma=>
       have hj1:(j:Int)<(un:Int):=by omega
       have hj2:(j:Int)<(kn:Int):=by omega
       have hj0:(0:Int)≤(j:Int):=by omega
       have du:=fun o=>cell_up hcu o
       have dk:=fun o=>cell_up hck o
       have e2':=fun o=>cell_up e2 o
       obtain ⟨sa,sn,sc,rfl⟩:=hsv
       have HC1:Hid (∀ W',Grown wr W'→Calls Tryz.prog 119 #[.slice sa sn sc,.int .i64 x] W' fun e w'=>e = .returned (.tuple #[.int .i64 pl,.bool b1])∧Grown W' w'):=hc1
       have HC2:Hid (∀ W',Grown wr W'→Calls Tryz.prog 120 #[.slice ta tn tc,.int .i64 pl] W' fun e w'=>e = .returned (.tuple #[.int .i64 q,.bool b2])∧Grown W' w'):=hc2
       clear hc1 hc2
       go_wp2_with fail
       refine (HC1.out _ ((Grown.refl _).alloc _)).mono ?_
       rintro e w4 ⟨rfl,hb4⟩
       have f3:=hb4.cellv (a:=⟨wr.heap.size,3,none⟩) (v := .slice ta tn tc) (by simp)
       have HB4:=((Grown.refl wr).alloc (.cells #[.int .i64 3,.int .i64 xu,.int .i64 (j:Int),.slice ta tn tc] 64)).trans hb4
       clear hb4
       go_wp2_with fail
       refine (HC2.out _ HB4).mono ?_
       rintro e w5 ⟨rfl,hb5⟩
       have HB5:=HB4.trans hb5
       have HP2:Hid (∀ ob,OwnI (w5.alloc ob) w2.heap.size va (O.take k)∧w2.heap.size≤(w5.alloc ob).heap.size∧Below w2.heap.size w2 (w5.alloc ob)):=fun ob=>by
        have hb6:Below wr.heap.size wr (w5.alloc ob):=(HB5.alloc ob).below
        exact ⟨HG.out.1.below hb6 (Nat.le_refl _),Nat.le_trans HG.out.2.1.size hb6.size,HG.out.2.1.trans (hb6.mono HG.out.2.1.size)⟩
       clear hb5 HB4 HB5
       go_wp2_with (at_builtin;go_must (refine push_I rfl _ _ 49 rfl Tryz.underlying49 w2.heap.size _ (O.take k) rfl (HP2.out _).1 _ _ q rfl (by simp) hOl (HP2.out _).2.1 ?_;intro v3 w3 hO3 hB3))
       go_roundw
       case rel=>
        refine ⟨_,k+1,rfl,by simp,hlt,?_,(HP2.out _).2.2.trans hB3,fun h=>by omega⟩
        rw [HOO.out]
        exact hO3
       case measure=>simp [intOf];omega
  · have hge:¬ (k:Int)<(rn:Int):=by omega
    obtain rfl:k=rn:=by omega
    have HOw:Hid (OwnI wr w2.heap.size va O):=by have:=HG.out.1;rwa [List.take_of_length_le (by rw [HL.out];omega)] at this
    have HBw:Hid (Below w2.heap.size w2 wr):=HG.out.2.1
    have HF:Hid (FarI wr w2.heap.size va O):=OwnI.far HOw.out
    have hSS:=HG.out.2.2
    obtain ⟨sa,sc,rfl,hsc0,hfr⟩:=HF.out
    have hsm:∃ g o,sa=some ⟨g,o,none⟩:=by
     by_cases h0:k=0
     · obtain ⟨g,o,n,c,e⟩:=hSS h0
       injection e with e
       exact ⟨g,o,e⟩
     · rcases hfr with h1 | ⟨g,o,h1,_⟩
       · have:=HL.out;rw [h1] at this;simp at this;omega
       · exact ⟨g,o,h1⟩
    clear hSS hfr
    obtain ⟨sg9,so9,hsa9⟩:=hsm
    subst hsa9
    rw [HL.out] at HOw HF hsc0 ⊢
    have hOl:O.length=k:=HL.out
    have HWs:Hid (w.heap.size≤w2.heap.size):=HG2.out.size
    have HBq:Hid (∀ m os,Below w.heap.size w (Go.Sort.grow (wr.drewN m) os)):=fun m os=>by
     have:=((Grown.refl wr).quiet m os).below
     exact HG2.out.trans ((HBw.out.trans (this.mono HBw.out.size)).mono HG2.out.size)
    have HFq:Hid (∀ m os,FarI (Go.Sort.grow (wr.drewN m) os) w.heap.size (.slice (some ⟨sg9,so9,none⟩) k sc) O):=fun m os=>(HF.out.le HWs.out).below ((Grown.refl wr).quiet m os).below (Nat.le_refl _)
    have f6:∀ m os,(Go.Sort.grow (wr.drewN m) os).cell? ⟨w.heap.size,6,none⟩=some (.int .i64 (cn:Int)):=fun m os=>((Grown.refl _).quiet m os).cellv e6
    have hckI:(cn:Int)≤(k:Int):=by omega
    have hcnI:(0:Int)≤(cn:Int):=by omega
    have hscI:(k:Int)≤(sc:Int):=by omega
    have hscI2:(cn:Int)≤(sc:Int):=by omega
    clear HG HW HO HR HOw HB0
    by_cases hsc:cn=sc
    · subst hsc
      have HNil:Hid (∀ (m:Nat) (os:Array Obj),FarI (Go.Sort.grow (wr.drewN m) os) w.heap.size (.slice (some ⟨sg9,so9,none⟩) 0 0) (O.drop cn)):=fun m os=>by
       rw [List.drop_eq_nil_of_le (by omega)]
       exact ⟨_,0,rfl,Nat.le_refl _,.inl rfl⟩
      go_wp2
      refine wp_region_quiet_grown hm (by kernel_rfl) ?_
      repeat (go_big_quiet_step (fail))
      refine wpQuiet_nil ?_
      intro _ hw'
      obtain ⟨⟨nq,osq⟩,hw''⟩:=hw'
      subst hw''
      go_wp2
      go_ret2
      exact ⟨_,_,rfl,(HFq.out _ _).take hOl hcr,HNil.out _ _,HBq.out _ _,⟨_,_,_,_,rfl⟩,⟨_,_,_,_,rfl⟩⟩
    · have hscE:((cn:Int) == (sc:Int))=false:=by simp;omega
      go_wp2
      refine wp_region_quiet_grown hm (by kernel_rfl) ?_
      repeat (go_big_quiet_step (fail))
      refine wpQuiet_nil ?_
      intro _ hw'
      obtain ⟨⟨nq,osq⟩,hw''⟩:=hw'
      subst hw''
      go_wp2
      go_ret2
      exact ⟨_,_,rfl,(HFq.out _ _).take hOl hcr,by have:=(HFq.out nq osq).drop hOl hcr;rw [Option.map_some,add_at] at this;exact this,HBq.out _ _,⟨_,_,_,_,rfl⟩,⟨_,_,_,_,rfl⟩⟩
end Go.Proofs
