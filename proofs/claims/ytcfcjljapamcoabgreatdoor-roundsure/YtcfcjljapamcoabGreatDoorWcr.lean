/-
  Check: whether a rule may be; if not, why.
-/
import Derived.RangeFuncNested
import Derived.RangeFuncBound
import Derived.RangeFuncCalls
import Derived.RangeFuncLeaves
import Derived.Shelf.Abstract
import Derived.Shelf.RegionOpen
import Derived.WalkKit
import Derived.WalkSpells
import Derived.WalkLawsBesides
import Derived.OwnWalkIn
import Derived.TacticsInMore
import Derived.LoopNIn
import Derived.LoopIn
import Derived.BigQuiet
import Derived.RegionIn
import Derived.Deep.QuietTactic
import Derived.Deep.RegionWith
import Derived.Deep.DeepCutAuto
import Derived.Lib.OthersKept
import Derived.Maps.AppendAt
import Derived.Lib.SmallJoins
import Derived.Deep.DrawnRows
import Derived.Test.YtcfcjljapamcoabGreatDoorWbr
namespace Go.Proofs
open Go.RowKit Go.Shelf
set_option maxRecDepth 100000
attribute [local go_sem] Oper.semAt_some
def fstE (key:List (List (Int × Int))):List Pc→Int
 | []=>0
 | p::r=>if pcE key p=0 then fstE key r else pcE key p
def chk (r:Rl):Int:=
 if r.key.length=0∨8<r.key.length then 70
 else if 8<r.ante.length∨8<r.post.length∨16<r.res.length then 72
 else if (r.ante.all okS && r.key.all okS && r.post.all okS)=false then 71
 else if fstE r.key r.res≠0 then fstE r.key r.res
 else if r.cu<0∨(r.res.length:Int)<r.cu then 76 else 0
theorem drop_pc {ps:List Pc} {k:Nat} (h:k<ps.length):ps.drop k=ps[k]::ps.drop (k+1):=List.drop_eq_getElem_cons h
def rcells (bg:Bool) (av kv pv:Value) (en:Bool) (rv:Value) (cu:Int):Obj := .cells #[.bool bg,av,kv,pv,.bool en,rv,.int .i64 cu] 61
def tailE (r:Rl):Int:=if fstE r.key r.res≠0 then fstE r.key r.res else if r.cu<0∨(r.res.length:Int)<r.cu then 76 else 0
set_option maxHeartbeats 4000000 in
theorem check_early (bg en:Bool) (cu:Int) (aa ka pa ra:Option Addr) (an ac kn kc pn pc rn rc:Nat) (w:World) (h:kn=0∨8<kn∨8<an∨8<pn∨16<rn) :
 Calls Tryz.prog 98 #[.agg #[.bool bg,.slice aa an ac,.slice ka kn kc,.slice pa pn pc,.bool en,.slice ra rn rc,.int .i64 cu]] w fun e w'=>e = .returned (.int .i64 (if kn=0∨8<kn then 70 else 72))∧Grown w w':=by
 by_cases h1:kn=0
 · rw [if_pos (.inl h1)]
   subst h1
   clear h
   go_enter Tryz.func98,Tryz.ntmps98
   go_wp2
   go_ret
   exact ⟨rfl,(Grown.refl _).alloc _⟩
 · have e1:((kn:Int) == 0)=false:=by simpa using h1
   have e1':decide (kn=0)=false:=by simpa using h1
   by_cases h2:8<kn
   · rw [if_pos (.inr h2)]
     have h2':(8:Int)<(kn:Int):=by omega
     clear h
     go_enter Tryz.func98,Tryz.ntmps98
     go_wp2
     go_ret
     exact ⟨rfl,(Grown.refl _).alloc _⟩
   · rw [if_neg (by omega)]
     have d2:decide ((8:Int)<(kn:Int))=false:=by simp;omega
     have d2':¬ (8:Int)<(kn:Int):=by omega
     by_cases h3:8<an
     · have h3':(8:Int)<(an:Int):=by omega
       clear h
       go_enter Tryz.func98,Tryz.ntmps98
       go_wp2
       go_ret
       exact ⟨rfl,(Grown.refl _).alloc _⟩
     · have d3:decide ((8:Int)<(an:Int))=false:=by simp;omega
       have d3':¬ (8:Int)<(an:Int):=by omega
       by_cases h4:8<pn
       · have h4':(8:Int)<(pn:Int):=by omega
         clear h
         go_enter Tryz.func98,Tryz.ntmps98
         go_wp2
         go_ret
         exact ⟨rfl,(Grown.refl _).alloc _⟩
       · have d4:decide ((8:Int)<(pn:Int))=false:=by simp;omega
         have d4':¬ (8:Int)<(pn:Int):=by omega
         have h5':(16:Int)<(rn:Int):=by omega
         clear h
         go_enter Tryz.func98,Tryz.ntmps98
         go_wp2
         go_ret
         exact ⟨rfl,(Grown.refl _).alloc _⟩
set_option maxHeartbeats 4000000 in
theorem check_sets (r:Rl) (aa ka pa ra:Option Addr) (an ac kn kc pn pc rn rc:Nat) (w:World) (hT:Tab w) (h:RR w (.slice aa an ac) (.slice ka kn kc) (.slice pa pn pc) (.slice ra rn rc) r)
 (h1:kn≠0) (h2:kn≤8) (h3:an≤8) (h4:pn≤8) (h5:rn≤16) (hb:(r.ante.all okS && r.key.all okS && r.post.all okS)=false) (ha:an=r.ante.length) (hk:kn=r.key.length) (hp:pn=r.post.length) :
 Calls Tryz.prog 98 #[.agg #[.bool r.bg,.slice aa an ac,.slice ka kn kc,.slice pa pn pc,.bool r.en,.slice ra rn rc,.int .i64 r.cu]] w fun e w'=>e = .returned (.int .i64 71)∧Grown w w':=by
 have HA:Hid (∀ W,Grown w W→Calls Tryz.prog 119 #[.slice aa an ac] W fun e w'=>e = .returned (.bool (r.ante.all okS))∧Grown W w'):=fun W hW=>filled_any _ _ W (hT.grown hW) (h.a.grown hW) (by omega)
 have HK:Hid (∀ W,Grown w W→Calls Tryz.prog 119 #[.slice ka kn kc] W fun e w'=>e = .returned (.bool (r.key.all okS))∧Grown W w'):=fun W hW=>filled_any _ _ W (hT.grown hW) (h.k.grown hW) (by omega)
 have HP:Hid (∀ W,Grown w W→Calls Tryz.prog 119 #[.slice pa pn pc] W fun e w'=>e = .returned (.bool (r.post.all okS))∧Grown W w'):=fun W hW=>filled_any _ _ W (hT.grown hW) (h.p.grown hW) (by omega)
 generalize r.ante.all okS=b1 at HA hb
 generalize r.key.all okS=b2 at HK hb
 generalize r.post.all okS=b3 at HP hb
 obtain ⟨bg,en,cu,ante,key,post,res⟩:=r
 simp only
 clear ha hk hp h hT
 have e1:((kn:Int) == 0)=false:=by simpa using h1
 have d2':¬ (8:Int)<(kn:Int):=by omega
 have d3':¬ (8:Int)<(an:Int):=by omega
 have d4':¬ (8:Int)<(pn:Int):=by omega
 have d5':¬ (16:Int)<(rn:Int):=by omega
 clear h2 h3 h4 h5
 cases b1 with
 | false=>
  go_enter Tryz.func98,Tryz.ntmps98
  go_wp2_with fail
  refine (HA.out _ ((Grown.refl _).alloc _)).mono ?_
  rintro e w1 ⟨rfl,hb1⟩
  go_wp2
  go_ret
  exact ⟨rfl,((Grown.refl _).alloc _).trans hb1⟩
 | true=>
  cases b2 with
  | false=>
   go_enter Tryz.func98,Tryz.ntmps98
   go_wp2_with fail
   refine (HA.out _ ((Grown.refl _).alloc _)).mono ?_
   rintro e w1 ⟨rfl,hb1⟩
   have hc2:=fun j v h=>hb1.cellv (a:=⟨w.heap.size,j,none⟩) (v:=v) h
   have g2:=hc2 2 (.slice ka kn kc) (by simp)
   go_wp2_with fail
   refine (HK.out _ (((Grown.refl _).alloc _).trans hb1)).mono ?_
   rintro e w2 ⟨rfl,hb2⟩
   go_wp2
   go_ret
   exact ⟨rfl,(((Grown.refl _).alloc _).trans hb1).trans hb2⟩
  | true=>
   obtain rfl:b3=false:=by simpa using hb
   go_enter Tryz.func98,Tryz.ntmps98
   go_wp2_with fail
   refine (HA.out _ ((Grown.refl _).alloc _)).mono ?_
   rintro e w1 ⟨rfl,hb1⟩
   have hc2:=fun j v h=>hb1.cellv (a:=⟨w.heap.size,j,none⟩) (v:=v) h
   have g2:=hc2 2 (.slice ka kn kc) (by simp)
   have g3:=hc2 3 (.slice pa pn pc) (by simp)
   go_wp2_with fail
   refine (HK.out _ (((Grown.refl _).alloc _).trans hb1)).mono ?_
   rintro e w2 ⟨rfl,hb2⟩
   have g3:=hb2.cellv g3
   go_wp2_with fail
   refine (HP.out _ ((((Grown.refl _).alloc _).trans hb1).trans hb2)).mono ?_
   rintro e w3 ⟨rfl,hb3⟩
   go_wp2
   go_ret
   exact ⟨rfl,((((Grown.refl _).alloc _).trans hb1).trans hb2).trans hb3⟩
set_option maxHeartbeats 4000000 in
theorem check_tail (r:Rl) (aa ka pa ra:Option Addr) (an ac kn kc pn pc rn rc:Nat) (w:World) (hT:Tab w) (h:RR w (.slice aa an ac) (.slice ka kn kc) (.slice pa pn pc) (.slice ra rn rc) r)
 (h1:kn≠0) (h2:kn≤8) (h3:an≤8) (h4:pn≤8) (h5:rn≤16) (hb1:r.ante.all okS=true) (hb2:r.key.all okS=true) (hb3:r.post.all okS=true) (ha:an=r.ante.length) (hk:kn=r.key.length) (hp:pn=r.post.length) (hr:rn=r.res.length) :
 Calls Tryz.prog 98 #[.agg #[.bool r.bg,.slice aa an ac,.slice ka kn kc,.slice pa pn pc,.bool r.en,.slice ra rn rc,.int .i64 r.cu]] w fun e w'=>e = .returned (.int .i64 (tailE r))∧Grown w w':=by
 have HA:Hid (∀ W,Grown w W→Calls Tryz.prog 119 #[.slice aa an ac] W fun e w'=>e = .returned (.bool true)∧Grown W w'):=fun W hW=>by have:=filled_any _ _ W (hT.grown hW) (h.a.grown hW) (by omega);rwa [hb1] at this
 have HK:Hid (∀ W,Grown w W→Calls Tryz.prog 119 #[.slice ka kn kc] W fun e w'=>e = .returned (.bool true)∧Grown W w'):=fun W hW=>by have:=filled_any _ _ W (hT.grown hW) (h.k.grown hW) (by omega);rwa [hb2] at this
 have HP:Hid (∀ W,Grown w W→Calls Tryz.prog 119 #[.slice pa pn pc] W fun e w'=>e = .returned (.bool true)∧Grown W w'):=fun W hW=>by have:=filled_any _ _ W (hT.grown hW) (h.p.grown hW) (by omega);rwa [hb3] at this
 have HQ:Hid (∀ W,Grown w W→∀ (p:Pc) (tv:Value),Rs W tv p.tl→Calls Tryz.prog 120 #[.slice ka kn kc,.agg #[.int .i64 p.k,.int .i64 p.u,.int .i64 p.y,tv]] W fun e w'=>e = .returned (.int .i64 (pcE r.key p))∧Grown W w'):=fun W hW p tv ht=>checkPiece_any _ r.key p tv W (hT.grown hW) (h.k.grown hW) ht
 have HR:Hid (rn=r.res.length∧(r.res=[]∨∃ g o,ra=some ⟨g,o,none⟩∧PRd w g o r.res)):=by
  obtain ⟨a',c',e',_,h'⟩:=h.r
  cases e'
  exact ⟨hr,h'⟩
 have HE:Hid (tailE r=if fstE r.key r.res≠0 then fstE r.key r.res else if r.cu<0∨(rn:Int)<r.cu then 76 else 0):=by unfold tailE;rw [hr];rfl
 generalize tailE r=E at HE
 obtain ⟨bg,en,cu,ante,key,post,res⟩:=r
 simp only at HE HR HQ ⊢
 clear ha hk hp h hT hb1 hb2 hb3 hr
 have e1:((kn:Int) == 0)=false:=by simpa using h1
 have d2':¬ (8:Int)<(kn:Int):=by omega
 have d3':¬ (8:Int)<(an:Int):=by omega
 have d4':¬ (8:Int)<(pn:Int):=by omega
 have d5':¬ (16:Int)<(rn:Int):=by omega
 have HM:Hid (rn≤16):=h5
 clear h2 h3 h4 h5
 go_enter Tryz.func98,Tryz.ntmps98
 go_wp2_with fail
 refine (HA.out _ ((Grown.refl _).alloc _)).mono ?_
 rintro e w1 ⟨rfl,hb1⟩
 have hc2:=fun j v h=>hb1.cellv (a:=⟨w.heap.size,j,none⟩) (v:=v) h
 have g2:=hc2 2 (.slice ka kn kc) (by simp)
 have g3:=hc2 3 (.slice pa pn pc) (by simp)
 have g5:=hc2 5 (.slice ra rn rc) (by simp)
 have g6:=hc2 6 (.int .i64 cu) (by simp)
 go_wp2_with fail
 refine (HK.out _ (((Grown.refl _).alloc _).trans hb1)).mono ?_
 rintro e w2 ⟨rfl,hb2⟩
 have k2:=hb2.cellv g2
 have g3:=hb2.cellv g3
 have k5:=hb2.cellv g5
 have k6:=hb2.cellv g6
 clear hc2 g2 g5 g6
 go_wp2_with fail
 refine (HP.out _ ((((Grown.refl _).alloc _).trans hb1).trans hb2)).mono ?_
 rintro e w3 ⟨rfl,hb3⟩
 have l2:=hb3.cellv k2
 have l5:=hb3.cellv k5
 have l6:=hb3.cellv k6
 have hG3:=((((Grown.refl w).alloc (rcells bg (.slice aa an ac) (.slice ka kn kc) (.slice pa pn pc) en (.slice ra rn rc) cu)).trans hb1).trans hb2).trans hb3
 clear k2 k5 k6 g3 hb1 hb2 hb3 HA HK HP
 go_wp2
 go_loopw [54] (fun vi wr=>∃ k:Nat,vi = .int .i64 k∧k≤rn∧Hid (fstE key (res.drop k)=fstE key res)∧Grown w3 wr) (fun vi _=>rn - (intOf vi).toNat)
 case atStart=>exact ⟨0,rfl,by omega,rfl,Grown.refl _⟩
 case round=>
  obtain ⟨k,rfl,hk,hF,hB⟩:=hrel
  have c2:=hB.cellv l2
  have c5:=hB.cellv l5
  have c6:=hB.cellv l6
  have hkI:(0:Int)≤(k:Int):=by omega
  by_cases hlt:k<rn
  · have hlt':(k:Int)<(rn:Int):=by omega
    have hm16:=HM.out
    have hkI2:(k:Int)≤16:=by omega
    have hkl:k<res.length:=by have:=HR.out.1;omega
    obtain ⟨g,o,hra,hP⟩:=HR.out.2.resolve_left (fun e=>by rw [e] at hkl;simp at hkl)
    subst hra
    obtain ⟨tv,p0,p1,p2,p3,hRs⟩:=(hP k hkl).below (hG3.trans hB).below (Nat.le_refl _)
    have HC:Hid (∀ W,Grown wr W→Calls Tryz.prog 120 #[.slice ka kn kc,.agg #[.int .i64 res[k].k,.int .i64 res[k].u,.int .i64 res[k].y,tv]] W fun e w'=>e = .returned (.int .i64 (pcE key res[k]))∧Grown W w'):=fun W hW=>HQ.out W ((hG3.trans hB).trans hW) res[k] tv (hRs.grown hW)
    have HS:Hid (fstE key (res.drop k)=if pcE key res[k]=0 then fstE key (res.drop (k+1)) else pcE key res[k]):=by show _=_;rw [drop_pc hkl];rfl
    obtain ⟨ta,tn,tc,rfl⟩:=hRs.sl
    generalize pcE key res[k]=q at HC HS
    generalize res[k].k=xk at HC p0
    generalize res[k].u=xu at HC p1
    generalize res[k].y=xy at HC p2
    have c2':=fun o=>cell_up c2 o
    by_cases hq:q=0
    · subst hq
      have HF2:Hid (fstE key (res.drop (k+1))=fstE key res):=by
       have h:=HS.out
       rw [if_pos rfl,hF.out] at h
       exact h.symm
      clear hRs HS hF hP
      go_wp2_with (go_at_call 120;refine (HC.out _ ((Grown.refl _).alloc _)).mono ?_;rintro e w' ⟨rfl,hb⟩)
      exact ⟨⟨k+1,by go_num,by omega,HF2,(hB.alloc _).trans hb⟩,by simp [intOf];omega⟩
    · have hq':(q != 0)=true:=by simpa using hq
      have HF2:Hid (E=q):=by
       have h:=HS.out
       rw [if_neg hq,hF.out] at h
       have h2:=HE.out
       rw [if_pos (by rw [h];exact hq),h] at h2
       exact h2
      clear hRs HS hF hP
      go_wp2_with (go_at_call 120;refine (HC.out _ ((Grown.refl _).alloc _)).mono ?_;rintro e w' ⟨rfl,hb⟩)
      go_ret
      exact ⟨by rw [HF2.out];rfl,(hG3.trans hB).trans (((Grown.refl _).alloc _).trans hb)⟩
  · have hge:¬ (k:Int)<(rn:Int):=by omega
    have HE2:Hid (E=if cu<0∨(rn:Int)<cu then 76 else 0):=by
     have h:=hF.out
     rw [List.drop_eq_nil_of_le (by have:=HR.out.1;omega)] at h
     have h2:=HE.out
     rw [if_neg (by rw [←h];simp [fstE])] at h2
     exact h2
    clear hF
    by_cases u1:cu<0
    · have HE3:Hid (E=76):=by have:=HE2.out;rwa [if_pos (.inl u1)] at this
      go_wp2
      go_ret
      exact ⟨by rw [HE3.out];rfl,hG3.trans hB⟩
    · have d6:decide (cu<0)=false:=by simpa using u1
      by_cases u2:(rn:Int)<cu
      · have HE3:Hid (E=76):=by have:=HE2.out;rwa [if_pos (.inr u2)] at this
        go_wp2
        go_ret
        exact ⟨by rw [HE3.out];rfl,hG3.trans hB⟩
      · have d7:decide ((rn:Int)<cu)=false:=by simpa using u2
        have HE3:Hid (E=0):=by have:=HE2.out;rwa [if_neg (by omega)] at this
        go_wp2
        go_ret
        exact ⟨by rw [HE3.out];rfl,hG3.trans hB⟩
theorem check_any (r:Rl) (av kv pv rv:Value) (w:World) (hT:Tab w) (h:RR w av kv pv rv r):Calls Tryz.prog 98 #[.agg #[.bool r.bg,av,kv,pv,.bool r.en,rv,.int .i64 r.cu]] w fun e w'=>e = .returned (.int .i64 (chk r))∧Grown w w':=by
 have hh:=h
 obtain ⟨⟨aa,ac,rfl,_⟩,⟨ka,kc,rfl,_⟩,⟨pa,pc,rfl,_⟩,⟨ra,rc,rfl,_⟩⟩:=h
 by_cases h1:r.key.length=0∨8<r.key.length∨8<r.ante.length∨8<r.post.length∨16<r.res.length
 · have:=check_early r.bg r.en r.cu aa ka pa ra r.ante.length ac r.key.length kc r.post.length pc r.res.length rc w h1
   have e:chk r=if r.key.length=0∨8<r.key.length then 70 else 72:=by
    unfold chk
    by_cases h2:r.key.length=0∨8<r.key.length
    · rw [if_pos h2,if_pos h2]
    · rw [if_neg h2,if_neg h2,if_pos (by omega)]
   rw [e];exact this
 · by_cases hb:(r.ante.all okS && r.key.all okS && r.post.all okS)=false
   · have e:chk r=71:=by unfold chk;rw [if_neg (by omega),if_neg (by omega),if_pos hb]
     rw [e]
     exact check_sets r aa ka pa ra _ ac _ kc _ pc _ rc w hT hh (by omega) (by omega) (by omega) (by omega) (by omega) hb rfl rfl rfl
   · have e:chk r=tailE r:=by unfold chk;rw [if_neg (by omega),if_neg (by omega),if_neg hb];rfl
     rw [e]
     simp only [Bool.not_eq_false,Bool.and_eq_true] at hb
     exact check_tail r aa ka pa ra _ ac _ kc _ pc _ rc w hT hh (by omega) (by omega) (by omega) (by omega) (by omega) hb.1.1 hb.1.2 hb.2 rfl rfl rfl rfl
end Go.Proofs
