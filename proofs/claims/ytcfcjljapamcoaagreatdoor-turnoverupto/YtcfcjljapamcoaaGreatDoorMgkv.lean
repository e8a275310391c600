/-
  Several texts in one (Qa Qb Qd Hg Ld).
-/
import Derived.RangeFuncNested
import Derived.RangeFuncBound
import Derived.RangeFuncCalls
import Derived.RangeFuncLeaves
import Derived.Shelf.Abstract
import Derived.Shelf.RegionOpen
import Derived.WalkKit
import Derived.WalkSpells
import Derived.WalkLawsBesides
import Derived.OwnWalkIn
import Derived.TacticsInMore
import Derived.LoopNIn
import Derived.LoopIn
import Derived.BigQuiet
import Derived.RegionIn
import Derived.Deep.QuietTactic
import Derived.Deep.RegionWith
import Derived.Lib.OthersKept
import Derived.Maps.AppendAt
import Derived.Lib.SmallJoins
import Derived.Shelf.SlSortCmp.QuietGrown
import Derived.Test.YtcfcjljapamcoaaGreatDoorMpdv
import Derived.Test.YtcfcjljapamcoaaGreatDoorMppv
import Derived.Test.YtcfcjljapamcoaaGreatDoorMgav
import Derived.Test.YtcfcjljapamcoaaGreatDoorMgdv
import Derived.Test.YtcfcjljapamcoaaGreatDoorMgbv
import Derived.Test.YtcfcjljapamcoaaGreatDoorMgjv
namespace Go.Proofs
open Go.RowKit Go.Shelf
set_option maxRecDepth 100000
attribute [local go_sem] Oper.semAt_some
attribute [local go_sem ↓] Go.wp_at_zero Go.wp_at_succ
theorem okS_split {l:List (Int × Int)} : okS l=(validB l && decide (l.length≠0)):=by
 unfold okS
 cases l <;> simp
set_option maxHeartbeats 1000000 in
theorem rsets_nil (a:Option Addr) (c:Nat) (w:World):Calls Tryz.prog 112 #[.slice a 0 c] w fun e w'=>e = .returned (.bool true)∧Grown w w':=by
 go_enter Tryz.func112,Tryz.ntmps112
 go_wp2
 go_loopw [3] (fun vi wr=>vi = .int .i64 0∧wr=w) (fun _ _=>0)
 case atStart=>exact ⟨rfl,rfl⟩
 case round=>
  obtain ⟨rfl,rfl⟩:=hrel
  go_wp2
  go_ret
  exact ⟨rfl,Grown.refl _⟩
set_option maxHeartbeats 2000000 in
theorem rsets_walk (g o c:Nat) (ls:List (List (Int × Int))) (w:World) (h:SRd w g o ls) (hn1:ls.length≤1000000) :
 Calls Tryz.prog 112 #[.slice (some ⟨g,o,none⟩) ls.length c] w fun e w'=>e = .returned (.bool (ls.all okS))∧Grown w w':=by
 obtain ⟨n,hnn⟩:∃ n,ls.length=n:=⟨_,rfl⟩
 have HN:Hid (ls.length=n):=hnn
 rw [hnn] at hn1 ⊢
 obtain ⟨r,hr⟩:∃ r:Bool,ls.all okS=r:=⟨_,rfl⟩
 have HR:Hid (ls.all okS=r):=hr
 rw [hr]
 clear hr hnn
 have HH:Hid (SRd w g o ls):=h
 clear h
 go_enter Tryz.func112,Tryz.ntmps112
 go_wp2
 go_loopw [3] (fun vi wr=>∃ k:Nat,vi = .int .i64 k∧k≤n∧Hid ((ls.take k).all okS=true)∧Grown w wr) (fun vi _=>n - (intOf vi).toNat)
 case atStart=>exact ⟨0,rfl,by omega,by simp [Hid],Grown.refl _⟩
 case round=>
  obtain ⟨k,rfl,hk,hG,hB⟩:=hrel
  have hpos:(0:Int)≤(k:Int):=by omega
  by_cases hlt:k<n
  · have hlt':(k:Int)<(n:Int):=by omega
    have hkl:k<ls.length:=by rw [HN.out];exact hlt
    obtain ⟨sv,hc,hs⟩:=HH.out k hkl
    have hc:=hB.cellv hc
    have HC:Hid (∀ W,Grown wr W→Calls Tryz.prog 23 #[sv] W fun e w'=>e = .returned (.bool (validB ls[k]))∧Grown W w'):=fun W hW=>rvalid_any sv _ W ((hs.grown hB).grown hW)
    obtain ⟨sa,sc,rfl,_,_⟩:=hs
    have hO:okS ls[k]=(validB ls[k] && decide (ls[k].length≠0)):=okS_split
    have HS:Hid (okS ls[k]=true→(ls.take (k+1)).all okS=true):=fun hv=>by rw [all_succ okS hkl,hG.out,hv];rfl
    have HF0:Hid (okS ls[k]=false→r=false):=fun hv=>by rw [←HR.out];exact all_stop okS hkl hv
    clear hG
    generalize validB ls[k]=vb at *
    generalize ls[k].length=sn at *
    generalize okS ls[k]=ob at *
    cases vb with
    | false=>
     have HF:Hid (r=false):=HF0.out (by rw [hO];rfl)
     clear hO HS HF0
     go_wp2_with (go_at_call 23;refine (HC.out _ (Grown.refl _)).mono ?_;rintro e w' ⟨rfl,hb⟩)
     go_ret
     have hrf:=HF.out
     exact ⟨by first | rfl | (rw [hrf];rfl),hB.trans hb⟩
    | true=>
     by_cases h0:sn=0
     · have HF:Hid (r=false):=HF0.out (by rw [hO];simp [h0])
       clear hO HS HF0
       subst h0
       go_wp2_with fail
       refine (HC.out _ (Grown.refl _)).mono ?_
       rintro e w1 ⟨rfl,hb⟩
       have hc:=hb.cellv hc
       go_wp2
       go_ret
       have hrf:=HF.out
       exact ⟨by first | rfl | (rw [hrf];rfl),hB.trans hb⟩
     · have HS2:Hid ((ls.take (k+1)).all okS=true):=HS.out (by rw [hO];simp [h0])
       have h1:((sn:Int) == 0)=false:=by simpa using h0
       clear hO HS HF0
       go_wp2_with fail
       refine (HC.out _ (Grown.refl _)).mono ?_
       rintro e w1 ⟨rfl,hb⟩
       have hc:=hb.cellv hc
       go_wp2
       exact ⟨⟨k+1,by go_num,by omega,HS2,hB.trans hb⟩,by simp [intOf];omega⟩
  · have hrt:r=true:=by
     rw [←HR.out]
     have:=hG.out
     rwa [List.take_of_length_le (by rw [HN.out];omega)] at this
    have HF:Hid (r=true):=hrt
    clear hG hrt
    go_wp2
    go_ret
    have hrf:=HF.out
    exact ⟨by first | rfl | (rw [hrf];rfl),hB⟩
theorem rsets_any (v:Value) (ls:List (List (Int × Int))) (w:World) (h:SR w v ls) (hn:ls.length≤1000000):Calls Tryz.prog 112 #[v] w fun e w'=>e = .returned (.bool (ls.all okS))∧Grown w w':=by
 obtain ⟨a,cap,rfl,_,h⟩:=h
 rcases h with rfl | ⟨g,o,rfl,h⟩
 · exact rsets_nil a cap w
 · exact rsets_walk g o cap ls w h hn
set_option maxHeartbeats 4000000 in
theorem rp_unit (bg en:Bool) (cu:Int) (aa ka pa ra:Option Addr) (an ac kn kc pn pc rn rc:Nat) (u y:Int) (ta:Option Addr) (tn tc:Nat) (w:World):Calls Tryz.prog 113 #[.agg #[.bool bg,.slice aa an ac,.slice ka kn kc,.slice pa pn pc,.bool en,.slice ra rn rc,.int .i64 cu],.agg #[.int .i64 1,.int .i64 u,.int .i64 y,.slice ta tn tc]] w fun e w'=>e = .returned (.int .i64 (if wd u=0∨y≠0∨tn≠0 then 73 else 0))∧Grown w w':=by
 have HC:=runit_any u
 by_cases h1:wd u=0
 · rw [if_pos (.inl h1)]
   have hb:isUn u=false:=by simp [isUn,h1]
   rw [hb] at HC
   clear h1 hb
   go_enter Tryz.func113,Tryz.ntmps113
   go_wp2_with (go_at_call 147;refine (HC _).mono ?_;rintro e w' ⟨rfl,rfl⟩)
   go_ret
   exact ⟨rfl,((Grown.refl _).alloc _).alloc _⟩
 · have hb:isUn u=true:=by simp [isUn,h1]
   rw [hb] at HC
   by_cases h2:y=0
   · by_cases h3:tn=0
     · rw [if_neg (by simp [h1,h2,h3])]
       subst h2 h3
       clear h1 hb
       go_enter Tryz.func113,Tryz.ntmps113
       go_wp2_with (go_at_call 147;refine (HC _).mono ?_;rintro e w' ⟨rfl,rfl⟩)
       go_ret
       exact ⟨rfl,((Grown.refl _).alloc _).alloc _⟩
     · rw [if_pos (.inr (.inr h3))]
       subst h2
       have h4:((tn:Int) == 0)=false:=by simpa using h3
       clear h1 hb
       go_enter Tryz.func113,Tryz.ntmps113
       go_wp2_with (go_at_call 147;refine (HC _).mono ?_;rintro e w' ⟨rfl,rfl⟩)
       go_ret
       exact ⟨rfl,((Grown.refl _).alloc _).alloc _⟩
   · rw [if_pos (.inr (.inl h2))]
     have h4:(y == 0)=false:=by simpa using h2
     clear h1 hb
     go_enter Tryz.func113,Tryz.ntmps113
     go_wp2_with (go_at_call 147;refine (HC _).mono ?_;rintro e w' ⟨rfl,rfl⟩)
     go_ret
     exact ⟨rfl,((Grown.refl _).alloc _).alloc _⟩
set_option maxHeartbeats 4000000 in
theorem rp_other (bg en:Bool) (cu:Int) (aa ka pa ra:Option Addr) (an ac kn kc pn pc rn rc:Nat) (k u y:Int) (ta:Option Addr) (tn tc:Nat) (w:World) (h1:k≠1) (h2:k≠2) (h3:k≠3):Calls Tryz.prog 113 #[.agg #[.bool bg,.slice aa an ac,.slice ka kn kc,.slice pa pn pc,.bool en,.slice ra rn rc,.int .i64 cu],.agg #[.int .i64 k,.int .i64 u,.int .i64 y,.slice ta tn tc]] w fun e w'=>e = .returned (.int .i64 73)∧Grown w w':=by
 have e1:(k == 1)=false:=by simpa using h1
 have e2:(k == 2)=false:=by simpa using h2
 have e3:(k == 3)=false:=by simpa using h3
 go_enter Tryz.func113,Tryz.ntmps113
 go_wp2
 go_ret
 exact ⟨rfl,((Grown.refl _).alloc _).alloc _⟩
set_option maxHeartbeats 4000000 in
theorem rp_copy (bg en:Bool) (cu:Int) (aa ka pa ra:Option Addr) (an ac kn kc pn pc rn rc:Nat) (u y:Int) (ta:Option Addr) (tn tc:Nat) (w:World):Calls Tryz.prog 113 #[.agg #[.bool bg,.slice aa an ac,.slice ka kn kc,.slice pa pn pc,.bool en,.slice ra rn rc,.int .i64 cu],.agg #[.int .i64 2,.int .i64 u,.int .i64 y,.slice ta tn tc]] w fun e w'=>e = .returned (.int .i64 (if u≠0∨tn≠0 then 73 else if y<0∨(kn:Int)≤y then 74 else 0))∧Grown w w':=by
 have hm:=mixed
 by_cases h1:u=0
 · subst h1
   by_cases h2:tn=0
   · subst h2
     rw [if_neg (by simp)]
     by_cases h3:y<0
     · rw [if_pos (.inl h3)]
       go_enter Tryz.func113,Tryz.ntmps113
       go_wp2
       go_ret
       exact ⟨rfl,((Grown.refl _).alloc _).alloc _⟩
     · have d3:decide (y<0)=false:=by simpa using h3
       by_cases h4:(kn:Int)≤y
       · rw [if_pos (.inr h4)]
         go_enter Tryz.func113,Tryz.ntmps113
         go_wp2
         go_ret
         exact ⟨rfl,((Grown.refl _).alloc _).alloc _⟩
       · rw [if_neg (by omega)]
         have d4:decide ((kn:Int)≤y)=false:=by simpa using h4
         have e0:∀ m os,(Go.Sort.grow (((w.alloc (.cells #[.bool bg,.slice aa an ac,.slice ka kn kc,.slice pa pn pc,.bool en,.slice ra rn rc,.int .i64 cu] 60)).alloc (.cells #[.int .i64 2,.int .i64 0,.int .i64 y,.slice ta 0 tc] 64)).drewN m) os).cell? ⟨w.heap.size+1,0,none⟩=some (.int .i64 2):=fun m os=>cell_grown (by simp) (by simp) m os
         go_enter Tryz.func113,Tryz.ntmps113
         go_wp2
         refine wp_region_quiet_grown hm (by kernel_rfl) ?_
         repeat (go_big_quiet_step (fail))
         refine wpQuiet_nil ?_
         intro _ hw'
         obtain ⟨⟨nq,osq⟩,hw''⟩:=hw'
         subst hw''
         go_wp2
         go_ret
         exact ⟨rfl,(((Grown.refl _).alloc _).alloc _).quiet _ _⟩
   · rw [if_pos (.inr h2)]
     have h4:((tn:Int) == 0)=false:=by simpa using h2
     go_enter Tryz.func113,Tryz.ntmps113
     go_wp2
     go_ret
     exact ⟨rfl,((Grown.refl _).alloc _).alloc _⟩
 · rw [if_pos (.inl h1)]
   have hq2:(u == 0)=false:=by simpa using h1
   go_enter Tryz.func113,Tryz.ntmps113
   go_wp2
   go_ret
   exact ⟨rfl,((Grown.refl _).alloc _).alloc _⟩
set_option maxHeartbeats 8000000 in
theorem rp_pair_in (bg en:Bool) (cu:Int) (aa pa ra:Option Addr) (an ac kn kc pn pc rn rc:Nat) (g o j:Nat) (sv:Value) (f tl:List (Int × Int)) (ta:Option Addr) (tn tc:Nat) (w:World) (hj:j<kn) (hc:w.cell? ⟨g,o+j,none⟩=some sv) (hf:Rs w sv f) (ht:Rs w (.slice ta tn tc) tl) :
 Calls Tryz.prog 113 #[.agg #[.bool bg,.slice aa an ac,.slice (some ⟨g,o,none⟩) kn kc,.slice pa pn pc,.bool en,.slice ra rn rc,.int .i64 cu],.agg #[.int .i64 3,.int .i64 0,.int .i64 j,.slice ta tn tc]] w fun e w'=>e = .returned (.int .i64 (if matB f tl=false then 75 else 0))∧Grown w w':=by
 have hm:=mixed
 have HV:Hid (∀ m os,Calls Tryz.prog 23 #[.slice ta tn tc] (Go.Sort.grow (((w.alloc (.cells #[.bool bg,.slice aa an ac,.slice (some ⟨g,o,none⟩) kn kc,.slice pa pn pc,.bool en,.slice ra rn rc,.int .i64 cu] 60)).alloc (.cells #[.int .i64 3,.int .i64 0,.int .i64 (j:Int),.slice ta tn tc] 64)).drewN m) os) fun e w'=>e = .returned (.bool (validB tl))∧Grown (Go.Sort.grow (((w.alloc (.cells #[.bool bg,.slice aa an ac,.slice (some ⟨g,o,none⟩) kn kc,.slice pa pn pc,.bool en,.slice ra rn rc,.int .i64 cu] 60)).alloc (.cells #[.int .i64 3,.int .i64 0,.int .i64 (j:Int),.slice ta tn tc] 64)).drewN m) os) w'):=fun m os=>rvalid_any _ tl _ (ht.grown ((((Grown.refl _).alloc _).alloc _).quiet m os))
 have HL:Hid (∀ m os,Calls Tryz.prog 108 #[.slice ta tn tc] (Go.Sort.grow (((w.alloc (.cells #[.bool bg,.slice aa an ac,.slice (some ⟨g,o,none⟩) kn kc,.slice pa pn pc,.bool en,.slice ra rn rc,.int .i64 cu] 60)).alloc (.cells #[.int .i64 3,.int .i64 0,.int .i64 (j:Int),.slice ta tn tc] 64)).drewN m) os) fun e w'=>e = .returned (.int .i64 (lenU tl))∧Grown (Go.Sort.grow (((w.alloc (.cells #[.bool bg,.slice aa an ac,.slice (some ⟨g,o,none⟩) kn kc,.slice pa pn pc,.bool en,.slice ra rn rc,.int .i64 cu] 60)).alloc (.cells #[.int .i64 3,.int .i64 0,.int .i64 (j:Int),.slice ta tn tc] 64)).drewN m) os) w'):=fun m os=>rlen_any _ tl _ (ht.grown ((((Grown.refl _).alloc _).alloc _).quiet m os))
 have HF:Hid (∀ m os,Calls Tryz.prog 108 #[sv] (Go.Sort.grow (((w.alloc (.cells #[.bool bg,.slice aa an ac,.slice (some ⟨g,o,none⟩) kn kc,.slice pa pn pc,.bool en,.slice ra rn rc,.int .i64 cu] 60)).alloc (.cells #[.int .i64 3,.int .i64 0,.int .i64 (j:Int),.slice ta tn tc] 64)).drewN m) os) fun e w'=>e = .returned (.int .i64 (lenU f))∧Grown (Go.Sort.grow (((w.alloc (.cells #[.bool bg,.slice aa an ac,.slice (some ⟨g,o,none⟩) kn kc,.slice pa pn pc,.bool en,.slice ra rn rc,.int .i64 cu] 60)).alloc (.cells #[.int .i64 3,.int .i64 0,.int .i64 (j:Int),.slice ta tn tc] 64)).drewN m) os) w'):=fun m os=>rlen_any _ f _ (hf.grown ((((Grown.refl _).alloc _).alloc _).quiet m os))
 have e0:∀ m os,(Go.Sort.grow (((w.alloc (.cells #[.bool bg,.slice aa an ac,.slice (some ⟨g,o,none⟩) kn kc,.slice pa pn pc,.bool en,.slice ra rn rc,.int .i64 cu] 60)).alloc (.cells #[.int .i64 3,.int .i64 0,.int .i64 (j:Int),.slice ta tn tc] 64)).drewN m) os).cell? ⟨w.heap.size+1,0,none⟩=some (.int .i64 3):=fun m os=>cell_grown (by simp) (by simp) m os
 have e2:∀ m os,(Go.Sort.grow (((w.alloc (.cells #[.bool bg,.slice aa an ac,.slice (some ⟨g,o,none⟩) kn kc,.slice pa pn pc,.bool en,.slice ra rn rc,.int .i64 cu] 60)).alloc (.cells #[.int .i64 3,.int .i64 0,.int .i64 (j:Int),.slice ta tn tc] 64)).drewN m) os).cell? ⟨w.heap.size+1,2,none⟩=some (.int .i64 (j:Int)):=fun m os=>cell_grown (by simp) (by simp) m os
 have e3:∀ m os,(Go.Sort.grow (((w.alloc (.cells #[.bool bg,.slice aa an ac,.slice (some ⟨g,o,none⟩) kn kc,.slice pa pn pc,.bool en,.slice ra rn rc,.int .i64 cu] 60)).alloc (.cells #[.int .i64 3,.int .i64 0,.int .i64 (j:Int),.slice ta tn tc] 64)).drewN m) os).cell? ⟨w.heap.size+1,3,none⟩=some (.slice ta tn tc):=fun m os=>cell_grown (by simp) (by simp) m os
 have e5:∀ m os,(Go.Sort.grow (((w.alloc (.cells #[.bool bg,.slice aa an ac,.slice (some ⟨g,o,none⟩) kn kc,.slice pa pn pc,.bool en,.slice ra rn rc,.int .i64 cu] 60)).alloc (.cells #[.int .i64 3,.int .i64 0,.int .i64 (j:Int),.slice ta tn tc] 64)).drewN m) os).cell? ⟨w.heap.size,2,none⟩=some (.slice (some ⟨g,o,none⟩) kn kc):=fun m os=>cell_grown (by simp;omega) (cell_up (by simp) _) m os
 have e4:∀ m os,(Go.Sort.grow (((w.alloc (.cells #[.bool bg,.slice aa an ac,.slice (some ⟨g,o,none⟩) kn kc,.slice pa pn pc,.bool en,.slice ra rn rc,.int .i64 cu] 60)).alloc (.cells #[.int .i64 3,.int .i64 0,.int .i64 (j:Int),.slice ta tn tc] 64)).drewN m) os).cell? ⟨g,o+j,none⟩=some sv:=fun m os=>((((Grown.refl _).alloc _).alloc _).quiet m os).cellv hc
 have hj0:(0:Int)≤(j:Int):=by omega
 have hj1:(j:Int)<(kn:Int):=by omega
 have d3:decide ((j:Int)<0)=false:=by simp
 have d4:decide ((kn:Int)≤(j:Int))=false:=by simp;omega
 unfold matB
 generalize validB tl=vb at HV
 generalize lenU tl=lt at HL
 generalize lenU f=lf at HF
 obtain ⟨sa,sn,sc,rfl⟩:=hf.sl
 clear hf ht hc
 cases vb with
 | false=>
  rw [if_pos (by simp)]
  go_enter Tryz.func113,Tryz.ntmps113
  go_wp2
  refine wp_region_quiet_grown hm (by kernel_rfl) ?_
  repeat (go_big_quiet_step ((go_at_call 23;exact grown_of (HV.out _ _))))
  refine wpQuiet_nil ?_
  intro _ hw'
  obtain ⟨⟨nq,osq⟩,hw''⟩:=hw'
  subst hw''
  go_wp2
  go_ret
  exact ⟨rfl,(((Grown.refl _).alloc _).alloc _).quiet _ _⟩
 | true=>
  by_cases he:lf=lt
  · rw [if_neg (by simp [he])]
    subst he
    go_enter Tryz.func113,Tryz.ntmps113
    go_wp2
    refine wp_region_quiet_grown hm (by kernel_rfl) ?_
    repeat (go_big_quiet_step ((go_at_call 23;exact grown_of (HV.out _ _))))
    go_big_quiet_step ((go_at_call 108;exact grown_of (HL.out _ _)))
    repeat (go_big_quiet_step ((go_at_call 108;exact grown_of (HF.out _ _))))
    refine wpQuiet_nil ?_
    intro _ hw'
    obtain ⟨⟨nq,osq⟩,hw''⟩:=hw'
    subst hw''
    go_wp2
    go_ret
    exact ⟨rfl,(((Grown.refl _).alloc _).alloc _).quiet _ _⟩
  · rw [if_pos (by simp [he])]
    have hne:(lt != lf)=true:=by simpa using fun e=>he e.symm
    go_enter Tryz.func113,Tryz.ntmps113
    go_wp2
    refine wp_region_quiet_grown hm (by kernel_rfl) ?_
    repeat (go_big_quiet_step ((go_at_call 23;exact grown_of (HV.out _ _))))
    go_big_quiet_step ((go_at_call 108;exact grown_of (HL.out _ _)))
    repeat (go_big_quiet_step ((go_at_call 108;exact grown_of (HF.out _ _))))
    refine wpQuiet_nil ?_
    intro _ hw'
    obtain ⟨⟨nq,osq⟩,hw''⟩:=hw'
    subst hw''
    go_wp2
    go_ret
    exact ⟨rfl,(((Grown.refl _).alloc _).alloc _).quiet _ _⟩
set_option maxHeartbeats 4000000 in
theorem rp_pair_no (bg en:Bool) (cu:Int) (aa ka pa ra:Option Addr) (an ac kn kc pn pc rn rc:Nat) (u y:Int) (ta:Option Addr) (tn tc:Nat) (w:World) (h:u≠0∨y<0∨(kn:Int)≤y):Calls Tryz.prog 113 #[.agg #[.bool bg,.slice aa an ac,.slice ka kn kc,.slice pa pn pc,.bool en,.slice ra rn rc,.int .i64 cu],.agg #[.int .i64 3,.int .i64 u,.int .i64 y,.slice ta tn tc]] w fun e w'=>e = .returned (.int .i64 (if u≠0 then 73 else 74))∧Grown w w':=by
 by_cases h1:u=0
 · subst h1
   rw [if_neg (by simp)]
   by_cases h3:y<0
   · clear h
     go_enter Tryz.func113,Tryz.ntmps113
     go_wp2
     go_ret
     exact ⟨rfl,((Grown.refl _).alloc _).alloc _⟩
   · have d3:decide (y<0)=false:=by simpa using h3
     have h4:(kn:Int)≤y:=by omega
     clear h
     go_enter Tryz.func113,Tryz.ntmps113
     go_wp2
     go_ret
     exact ⟨rfl,((Grown.refl _).alloc _).alloc _⟩
 · rw [if_pos h1]
   have hq2:(u == 0)=false:=by simpa using h1
   clear h
   go_enter Tryz.func113,Tryz.ntmps113
   go_wp2
   go_ret
   exact ⟨rfl,((Grown.refl _).alloc _).alloc _⟩
theorem rpiece_any (r:Rl) (av kv pv rv:Value) (p:Pc) (tv:Value) (w:World) (h:RR w av kv pv rv r) (ht:Rs w tv p.tl):Calls Tryz.prog 113 #[.agg #[.bool r.bg,av,kv,pv,.bool r.en,rv,.int .i64 r.cu],.agg #[.int .i64 p.k,.int .i64 p.u,.int .i64 p.y,tv]] w fun e w'=>e = .returned (.int .i64 (pcE r.key p))∧Grown w w':=by
 obtain ⟨aa,an,ac,rfl⟩:=h.a.sl
 obtain ⟨ka,kc,rfl,_,hk⟩:=h.k
 obtain ⟨pa,pn,pc,rfl⟩:=h.p.sl
 obtain ⟨ra,rn,rc,rfl⟩:=h.r.sl
 obtain ⟨k,u,y,tl⟩:=p
 simp only at ht ⊢
 obtain ⟨ta,tn,tc,rfl⟩:=ht.sl
 have hl:=len_zero_iff ht
 unfold pcE
 simp only
 by_cases h1:k=1
 · subst h1
   rw [if_pos rfl]
   have:=rp_unit r.bg r.en r.cu aa ka pa ra an ac r.key.length kc pn pc rn rc u y ta tn tc w
   rw [hl] at this ⊢
   simpa using this
 · rw [if_neg h1]
   by_cases h2:k=2
   · subst h2
     rw [if_pos (.inl rfl)]
     have:=rp_copy r.bg r.en r.cu aa ka pa ra an ac r.key.length kc pn pc rn rc u y ta tn tc w
     rw [hl] at this ⊢
     simpa using this
   · by_cases h3:k=3
     · subst h3
       rw [if_pos (.inr rfl)]
       by_cases h4:u≠0∨y<0∨(r.key.length:Int)≤y
       · have:=rp_pair_no r.bg r.en r.cu aa ka pa ra an ac r.key.length kc pn pc rn rc u y ta tn tc w h4
         by_cases h5:u=0
         · subst h5
           have h6:y<0∨(r.key.length:Int)≤y:=by simpa using h4
           simpa [h6] using this
         · simpa [h5] using this
       · simp only [not_or,Classical.not_not,ne_eq] at h4
         obtain ⟨rfl,h5,h6⟩:=h4
         obtain ⟨j,rfl⟩:∃ j:Nat,y=(j:Int):=⟨y.toNat,by omega⟩
         have hjl:j<r.key.length:=by omega
         obtain ⟨g,o,rfl,hk2⟩:=hk.resolve_left (fun e=>by rw [e] at hjl;simp at hjl)
         obtain ⟨sv,hc,hs⟩:=hk2 j hjl
         have hka:keyAt r.key (j:Int)=r.key[j]:=by simp [keyAt,hjl]
         have:=rp_pair_in r.bg r.en r.cu aa pa ra an ac r.key.length kc pn pc rn rc g o j sv r.key[j] tl ta tn tc w hjl hc hs ht
         rw [hka]
         have h7:¬ ((j:Int)<0∨(r.key.length:Int)≤(j:Int)):=by omega
         rw [if_neg (by simp),if_neg h7]
         simpa using this
     · rw [if_neg (by omega)]
       exact rp_other r.bg r.en r.cu aa ka pa ra an ac r.key.length kc pn pc rn rc k u y ta tn tc w h1 h2 h3
set_option maxHeartbeats 4000000 in
theorem rcheck_early (bg en:Bool) (cu:Int) (aa ka pa ra:Option Addr) (an ac kn kc pn pc rn rc:Nat) (w:World) (h:kn=0∨8<kn∨8<an∨8<pn∨16<rn) :
 Calls Tryz.prog 84 #[.agg #[.bool bg,.slice aa an ac,.slice ka kn kc,.slice pa pn pc,.bool en,.slice ra rn rc,.int .i64 cu]] w fun e w'=>e = .returned (.int .i64 (if kn=0∨8<kn then 70 else 72))∧Grown w w':=by
 by_cases h1:kn=0
 · rw [if_pos (.inl h1)]
   subst h1
   clear h
   go_enter Tryz.func84,Tryz.ntmps84
   go_wp2
   go_ret
   exact ⟨rfl,(Grown.refl _).alloc _⟩
 · have e1:decide ((kn:Int)<1)=false:=by simp;omega
   have e1':¬ (kn:Int)<1:=by omega
   by_cases h2:8<kn
   · rw [if_pos (.inr h2)]
     have h2':(8:Int)<(kn:Int):=by omega
     clear h
     go_enter Tryz.func84,Tryz.ntmps84
     go_wp2
     go_ret
     exact ⟨rfl,(Grown.refl _).alloc _⟩
   · rw [if_neg (by omega)]
     have d2':¬ (8:Int)<(kn:Int):=by omega
     by_cases h3:8<an
     · have h3':(8:Int)<(an:Int):=by omega
       clear h
       go_enter Tryz.func84,Tryz.ntmps84
       go_wp2
       go_ret
       exact ⟨rfl,(Grown.refl _).alloc _⟩
     · have d3':¬ (8:Int)<(an:Int):=by omega
       by_cases h4:8<pn
       · have h4':(8:Int)<(pn:Int):=by omega
         clear h
         go_enter Tryz.func84,Tryz.ntmps84
         go_wp2
         go_ret
         exact ⟨rfl,(Grown.refl _).alloc _⟩
       · have d4':¬ (8:Int)<(pn:Int):=by omega
         have h5':(16:Int)<(rn:Int):=by omega
         clear h
         go_enter Tryz.func84,Tryz.ntmps84
         go_wp2
         go_ret
         exact ⟨rfl,(Grown.refl _).alloc _⟩
set_option maxHeartbeats 4000000 in
theorem rcheck_sets (r:Rl) (aa ka pa ra:Option Addr) (an ac kn kc pn pc rn rc:Nat) (w:World) (h:RR w (.slice aa an ac) (.slice ka kn kc) (.slice pa pn pc) (.slice ra rn rc) r)
 (h1:kn≠0) (h2:kn≤8) (h3:an≤8) (h4:pn≤8) (h5:rn≤16) (hb:(r.ante.all okS && r.key.all okS && r.post.all okS)=false) (ha:an=r.ante.length) (hk:kn=r.key.length) (hp:pn=r.post.length) :
 Calls Tryz.prog 84 #[.agg #[.bool r.bg,.slice aa an ac,.slice ka kn kc,.slice pa pn pc,.bool r.en,.slice ra rn rc,.int .i64 r.cu]] w fun e w'=>e = .returned (.int .i64 71)∧Grown w w':=by
 have HA:Hid (∀ W,Grown w W→Calls Tryz.prog 112 #[.slice aa an ac] W fun e w'=>e = .returned (.bool (r.ante.all okS))∧Grown W w'):=fun W hW=>rsets_any _ _ W (h.a.grown hW) (by omega)
 have HK:Hid (∀ W,Grown w W→Calls Tryz.prog 112 #[.slice ka kn kc] W fun e w'=>e = .returned (.bool (r.key.all okS))∧Grown W w'):=fun W hW=>rsets_any _ _ W (h.k.grown hW) (by omega)
 have HP:Hid (∀ W,Grown w W→Calls Tryz.prog 112 #[.slice pa pn pc] W fun e w'=>e = .returned (.bool (r.post.all okS))∧Grown W w'):=fun W hW=>rsets_any _ _ W (h.p.grown hW) (by omega)
 generalize r.ante.all okS=b1 at HA hb
 generalize r.key.all okS=b2 at HK hb
 generalize r.post.all okS=b3 at HP hb
 obtain ⟨bg,en,cu,ante,key,post,res⟩:=r
 simp only
 clear ha hk hp h
 have e1:¬ (kn:Int)<1:=by omega
 have d2':¬ (8:Int)<(kn:Int):=by omega
 have d3':¬ (8:Int)<(an:Int):=by omega
 have d4':¬ (8:Int)<(pn:Int):=by omega
 have d5':¬ (16:Int)<(rn:Int):=by omega
 clear h2 h3 h4 h5
 cases b1 with
 | false=>
  go_enter Tryz.func84,Tryz.ntmps84
  go_wp2_with fail
  refine (HA.out _ ((Grown.refl _).alloc _)).mono ?_
  rintro e w1 ⟨rfl,hb1⟩
  go_wp2
  go_ret
  exact ⟨rfl,((Grown.refl _).alloc _).trans hb1⟩
 | true=>
  cases b2 with
  | false=>
   go_enter Tryz.func84,Tryz.ntmps84
   go_wp2_with fail
   refine (HA.out _ ((Grown.refl _).alloc _)).mono ?_
   rintro e w1 ⟨rfl,hb1⟩
   have hc2:=fun j v h=>hb1.cellv (a:=⟨w.heap.size,j,none⟩) (v:=v) h
   have g2:=hc2 2 (.slice ka kn kc) (by simp)
   go_wp2_with fail
   refine (HK.out _ (((Grown.refl _).alloc _).trans hb1)).mono ?_
   rintro e w2 ⟨rfl,hb2⟩
   go_wp2
   go_ret
   exact ⟨rfl,(((Grown.refl _).alloc _).trans hb1).trans hb2⟩
  | true=>
   obtain rfl:b3=false:=by simpa using hb
   go_enter Tryz.func84,Tryz.ntmps84
   go_wp2_with fail
   refine (HA.out _ ((Grown.refl _).alloc _)).mono ?_
   rintro e w1 ⟨rfl,hb1⟩
   have hc2:=fun j v h=>hb1.cellv (a:=⟨w.heap.size,j,none⟩) (v:=v) h
   have g2:=hc2 2 (.slice ka kn kc) (by simp)
   have g3:=hc2 3 (.slice pa pn pc) (by simp)
   go_wp2_with fail
   refine (HK.out _ (((Grown.refl _).alloc _).trans hb1)).mono ?_
   rintro e w2 ⟨rfl,hb2⟩
   have g3:=hb2.cellv g3
   go_wp2_with fail
   refine (HP.out _ ((((Grown.refl _).alloc _).trans hb1).trans hb2)).mono ?_
   rintro e w3 ⟨rfl,hb3⟩
   go_wp2
   go_ret
   exact ⟨rfl,((((Grown.refl _).alloc _).trans hb1).trans hb2).trans hb3⟩
set_option maxHeartbeats 4000000 in
theorem rcheck_tail (r:Rl) (aa ka pa ra:Option Addr) (an ac kn kc pn pc rn rc:Nat) (w:World) (h:RR w (.slice aa an ac) (.slice ka kn kc) (.slice pa pn pc) (.slice ra rn rc) r)
 (h1:kn≠0) (h2:kn≤8) (h3:an≤8) (h4:pn≤8) (h5:rn≤16) (hb1:r.ante.all okS=true) (hb2:r.key.all okS=true) (hb3:r.post.all okS=true) (ha:an=r.ante.length) (hk:kn=r.key.length) (hp:pn=r.post.length) (hr:rn=r.res.length) :
 Calls Tryz.prog 84 #[.agg #[.bool r.bg,.slice aa an ac,.slice ka kn kc,.slice pa pn pc,.bool r.en,.slice ra rn rc,.int .i64 r.cu]] w fun e w'=>e = .returned (.int .i64 (tailE r))∧Grown w w':=by
 have HA:Hid (∀ W,Grown w W→Calls Tryz.prog 112 #[.slice aa an ac] W fun e w'=>e = .returned (.bool true)∧Grown W w'):=fun W hW=>by have:=rsets_any _ _ W (h.a.grown hW) (by omega);rwa [hb1] at this
 have HK:Hid (∀ W,Grown w W→Calls Tryz.prog 112 #[.slice ka kn kc] W fun e w'=>e = .returned (.bool true)∧Grown W w'):=fun W hW=>by have:=rsets_any _ _ W (h.k.grown hW) (by omega);rwa [hb2] at this
 have HP:Hid (∀ W,Grown w W→Calls Tryz.prog 112 #[.slice pa pn pc] W fun e w'=>e = .returned (.bool true)∧Grown W w'):=fun W hW=>by have:=rsets_any _ _ W (h.p.grown hW) (by omega);rwa [hb3] at this
 have HQ:Hid (∀ W,Grown w W→∀ (p:Pc) (tv:Value),Rs W tv p.tl→Calls Tryz.prog 113 #[.agg #[.bool r.bg,.slice aa an ac,.slice ka kn kc,.slice pa pn pc,.bool r.en,.slice ra rn rc,.int .i64 r.cu],.agg #[.int .i64 p.k,.int .i64 p.u,.int .i64 p.y,tv]] W fun e w'=>e = .returned (.int .i64 (pcE r.key p))∧Grown W w'):=fun W hW p tv ht=>rpiece_any r _ _ _ _ p tv W (h.grown hW) ht
 have HR:Hid (rn=r.res.length∧(r.res=[]∨∃ g o,ra=some ⟨g,o,none⟩∧PRd w g o r.res)):=by
  obtain ⟨a',c',e',_,h'⟩:=h.r
  cases e'
  exact ⟨hr,h'⟩
 have HE:Hid (tailE r=if fstE r.key r.res≠0 then fstE r.key r.res else if r.cu<0∨(rn:Int)<r.cu then 76 else 0):=by unfold tailE;rw [hr];rfl
 generalize tailE r=E at HE
 obtain ⟨bg,en,cu,ante,key,post,res⟩:=r
 simp only at HE HR HQ ⊢
 clear ha hk hp h hb1 hb2 hb3 hr
 have e1:¬ (kn:Int)<1:=by omega
 have d2':¬ (8:Int)<(kn:Int):=by omega
 have d3':¬ (8:Int)<(an:Int):=by omega
 have d4':¬ (8:Int)<(pn:Int):=by omega
 have d5':¬ (16:Int)<(rn:Int):=by omega
 have HM:Hid (rn≤16):=h5
 clear h2 h3 h4 h5
 go_enter Tryz.func84,Tryz.ntmps84
 go_wp2_with fail
 refine (HA.out _ ((Grown.refl _).alloc _)).mono ?_
 rintro e w1 ⟨rfl,hb1⟩
 have hc2:=fun j v h=>hb1.cellv (a:=⟨w.heap.size,j,none⟩) (v:=v) h
 have g0:=hc2 0 (.bool bg) (by simp)
 have g1:=hc2 1 (.slice aa an ac) (by simp)
 have g2:=hc2 2 (.slice ka kn kc) (by simp)
 have g3:=hc2 3 (.slice pa pn pc) (by simp)
 have g4:=hc2 4 (.bool en) (by simp)
 have g5:=hc2 5 (.slice ra rn rc) (by simp)
 have g6:=hc2 6 (.int .i64 cu) (by simp)
 go_wp2_with fail
 refine (HK.out _ (((Grown.refl _).alloc _).trans hb1)).mono ?_
 rintro e w2 ⟨rfl,hb2⟩
 have k0:=hb2.cellv g0
 have k1:=hb2.cellv g1
 have k2:=hb2.cellv g2
 have g3:=hb2.cellv g3
 have k4:=hb2.cellv g4
 have k5:=hb2.cellv g5
 have k6:=hb2.cellv g6
 clear hc2 g0 g1 g2 g4 g5 g6
 go_wp2_with fail
 refine (HP.out _ ((((Grown.refl _).alloc _).trans hb1).trans hb2)).mono ?_
 rintro e w3 ⟨rfl,hb3⟩
 have l0:=hb3.cellv k0
 have l1:=hb3.cellv k1
 have l2:=hb3.cellv k2
 have l3:=hb3.cellv g3
 have l4:=hb3.cellv k4
 have l5:=hb3.cellv k5
 have l6:=hb3.cellv k6
 have hm:=mixed
 have hG3:=((((Grown.refl w).alloc (rcells bg (.slice aa an ac) (.slice ka kn kc) (.slice pa pn pc) en (.slice ra rn rc) cu)).trans hb1).trans hb2).trans hb3
 clear k0 k1 k2 k4 k5 k6 g3 hb1 hb2 hb3 HA HK HP
 go_wp2
 go_loopw [3] (fun vi wr=>∃ k:Nat,vi = .int .i64 k∧k≤rn∧Hid (fstE key (res.drop k)=fstE key res)∧Grown w3 wr) (fun vi _=>rn - (intOf vi).toNat)
 case atStart=>exact ⟨0,rfl,by omega,rfl,Grown.refl _⟩
 case round=>
  obtain ⟨k,rfl,hk,hF,hB⟩:=hrel
  have c5:=hB.cellv l5
  have c6:=hB.cellv l6
  have hkI:(0:Int)≤(k:Int):=by omega
  by_cases hlt:k<rn
  · have hlt':(k:Int)<(rn:Int):=by omega
    have hm16:=HM.out
    have hkI2:(k:Int)≤16:=by omega
    have hkl:k<res.length:=by have:=HR.out.1;omega
    obtain ⟨g,o,hra,hP⟩:=HR.out.2.resolve_left (fun e=>by rw [e] at hkl;simp at hkl)
    subst hra
    obtain ⟨tv,p0,p1,p2,p3,hRs⟩:=(hP k hkl).below (hG3.trans hB).below (Nat.le_refl _)
    have HC:Hid (∀ W,Grown wr W→Calls Tryz.prog 113 #[.agg #[.bool bg,.slice aa an ac,.slice ka kn kc,.slice pa pn pc,.bool en,.slice (some ⟨g,o,none⟩) rn rc,.int .i64 cu],.agg #[.int .i64 res[k].k,.int .i64 res[k].u,.int .i64 res[k].y,tv]] W fun e w'=>e = .returned (.int .i64 (pcE key res[k]))∧Grown W w'):=fun W hW=>HQ.out W ((hG3.trans hB).trans hW) res[k] tv (hRs.grown hW)
    have HS:Hid (fstE key (res.drop k)=if pcE key res[k]=0 then fstE key (res.drop (k+1)) else pcE key res[k]):=by show _=_;rw [drop_pc hkl];rfl
    obtain ⟨ta,tn,tc,rfl⟩:=hRs.sl
    generalize pcE key res[k]=q at HC HS
    generalize res[k].k=xk at HC p0
    generalize res[k].u=xu at HC p1
    generalize res[k].y=xy at HC p2
    have n0:∀ m os,(Go.Sort.grow (wr.drewN m) os).cell? ⟨w.heap.size,0,none⟩=some (.bool bg):=fun m os=>(hB.quiet m os).cellv l0
    have n1:∀ m os,(Go.Sort.grow (wr.drewN m) os).cell? ⟨w.heap.size,1,none⟩=some (.slice aa an ac):=fun m os=>(hB.quiet m os).cellv l1
    have n2:∀ m os,(Go.Sort.grow (wr.drewN m) os).cell? ⟨w.heap.size,2,none⟩=some (.slice ka kn kc):=fun m os=>(hB.quiet m os).cellv l2
    have n3:∀ m os,(Go.Sort.grow (wr.drewN m) os).cell? ⟨w.heap.size,3,none⟩=some (.slice pa pn pc):=fun m os=>(hB.quiet m os).cellv l3
    have n4:∀ m os,(Go.Sort.grow (wr.drewN m) os).cell? ⟨w.heap.size,4,none⟩=some (.bool en):=fun m os=>(hB.quiet m os).cellv l4
    have n5:∀ m os,(Go.Sort.grow (wr.drewN m) os).cell? ⟨w.heap.size,5,none⟩=some (.slice (some ⟨g,o,none⟩) rn rc):=fun m os=>(hB.quiet m os).cellv l5
    have n6:∀ m os,(Go.Sort.grow (wr.drewN m) os).cell? ⟨w.heap.size,6,none⟩=some (.int .i64 cu):=fun m os=>(hB.quiet m os).cellv l6
    have m0:∀ m os,(Go.Sort.grow (wr.drewN m) os).cell? ⟨g,o+k*4,none⟩=some (.int .i64 xk):=fun m os=>((Grown.refl _).quiet m os).cellv p0
    have m1:∀ m os,(Go.Sort.grow (wr.drewN m) os).cell? ⟨g,o+k*4+1,none⟩=some (.int .i64 xu):=fun m os=>((Grown.refl _).quiet m os).cellv p1
    have m2:∀ m os,(Go.Sort.grow (wr.drewN m) os).cell? ⟨g,o+k*4+2,none⟩=some (.int .i64 xy):=fun m os=>((Grown.refl _).quiet m os).cellv p2
    have m3:∀ m os,(Go.Sort.grow (wr.drewN m) os).cell? ⟨g,o+k*4+3,none⟩=some (.slice ta tn tc):=fun m os=>((Grown.refl _).quiet m os).cellv p3
    clear p0 p1 p2 p3 c6
    by_cases hq:q=0
    · subst hq
      have HF2:Hid (fstE key (res.drop (k+1))=fstE key res):=by
       have h:=HS.out
       rw [if_pos rfl,hF.out] at h
       exact h.symm
      clear hRs HS hF hP
      go_wp2
      refine wp_region_quiet_grown hm (by kernel_rfl) ?_
      repeat (go_big_quiet_step ((go_at_call 113;exact grown_of (HC.out _ ((Grown.refl _).quiet _ _)))))
      refine wpQuiet_nil ?_
      intro _ hw'
      obtain ⟨⟨nq,osq⟩,hw''⟩:=hw'
      subst hw''
      go_wp2
      exact ⟨⟨k+1,by go_num,by omega,HF2,hB.quiet _ _⟩,by simp [intOf];omega⟩
    · have hq':(q != 0)=true:=by simpa using hq
      have HF2:Hid (E=q):=by
       have h:=HS.out
       rw [if_neg hq,hF.out] at h
       have h2:=HE.out
       rw [if_pos (by rw [h];exact hq),h] at h2
       exact h2
      clear hRs HS hF hP
      go_wp2
      refine wp_region_quiet_grown hm (by kernel_rfl) ?_
      repeat (go_big_quiet_step ((go_at_call 113;exact grown_of (HC.out _ ((Grown.refl _).quiet _ _)))))
      refine wpQuiet_nil ?_
      intro _ hw'
      obtain ⟨⟨nq,osq⟩,hw''⟩:=hw'
      subst hw''
      go_wp2
      go_ret
      exact ⟨by rw [HF2.out];rfl,hG3.trans (hB.quiet _ _)⟩
  · have hge:¬ (k:Int)<(rn:Int):=by omega
    have HE2:Hid (E=if cu<0∨(rn:Int)<cu then 76 else 0):=by
     have h:=hF.out
     rw [List.drop_eq_nil_of_le (by have:=HR.out.1;omega)] at h
     have h2:=HE.out
     rw [if_neg (by rw [←h];simp [fstE])] at h2
     exact h2
    clear hF
    by_cases u1:cu<0
    · have HE3:Hid (E=76):=by have:=HE2.out;rwa [if_pos (.inl u1)] at this
      go_wp2
      go_ret
      exact ⟨by rw [HE3.out];rfl,hG3.trans hB⟩
    · have d6:decide (cu<0)=false:=by simpa using u1
      by_cases u2:(rn:Int)<cu
      · have HE3:Hid (E=76):=by have:=HE2.out;rwa [if_pos (.inr u2)] at this
        go_wp2
        go_ret
        exact ⟨by rw [HE3.out];rfl,hG3.trans hB⟩
      · have d7:decide ((rn:Int)<cu)=false:=by simpa using u2
        have HE3:Hid (E=0):=by have:=HE2.out;rwa [if_neg (by omega)] at this
        go_wp2
        go_ret
        exact ⟨by rw [HE3.out];rfl,hG3.trans hB⟩
theorem rcheck_any (r:Rl) (av kv pv rv:Value) (w:World) (h:RR w av kv pv rv r):Calls Tryz.prog 84 #[.agg #[.bool r.bg,av,kv,pv,.bool r.en,rv,.int .i64 r.cu]] w fun e w'=>e = .returned (.int .i64 (chk r))∧Grown w w':=by
 have hh:=h
 obtain ⟨⟨aa,ac,rfl,_⟩,⟨ka,kc,rfl,_⟩,⟨pa,pc,rfl,_⟩,⟨ra,rc,rfl,_⟩⟩:=h
 by_cases h1:r.key.length=0∨8<r.key.length∨8<r.ante.length∨8<r.post.length∨16<r.res.length
 · have:=rcheck_early r.bg r.en r.cu aa ka pa ra r.ante.length ac r.key.length kc r.post.length pc r.res.length rc w h1
   have e:chk r=if r.key.length=0∨8<r.key.length then 70 else 72:=by
    unfold chk
    by_cases h2:r.key.length=0∨8<r.key.length
    · rw [if_pos h2,if_pos h2]
    · rw [if_neg h2,if_neg h2,if_pos (by omega)]
   rw [e];exact this
 · by_cases hb:(r.ante.all okS && r.key.all okS && r.post.all okS)=false
   · have e:chk r=71:=by unfold chk;rw [if_neg (by omega),if_neg (by omega),if_pos hb]
     rw [e]
     exact rcheck_sets r aa ka pa ra _ ac _ kc _ pc _ rc w hh (by omega) (by omega) (by omega) (by omega) (by omega) hb rfl rfl rfl
   · have e:chk r=tailE r:=by unfold chk;rw [if_neg (by omega),if_neg (by omega),if_neg hb];rfl
     rw [e]
     simp only [Bool.not_eq_false,Bool.and_eq_true] at hb
     exact rcheck_tail r aa ka pa ra _ ac _ kc _ pc _ rc w hh (by omega) (by omega) (by omega) (by omega) (by omega) hb.1.1 hb.1.2 hb.2 rfl rfl rfl rfl
set_option maxHeartbeats 4000000 in
theorem rall_any (v:Value) (rs:List Rl) (w:World) (h:PsR w v rs):Calls Tryz.prog 52 #[.agg #[v]] w fun e w'=>e = .returned (.tuple #[.int .i64 (allE rs).1,.int .i64 (allE rs).2])∧Grown w w':=by
 have HP:Hid (∀ W,Grown w W→PsR W v rs):=fun W hW=>h.grown hW
 obtain ⟨ra,rc,rfl,_,_⟩:=h
 obtain ⟨n,hn⟩:∃ n,rs.length=n:=⟨_,rfl⟩
 have HN:Hid (rs.length=n):=hn
 rw [hn] at HP ⊢
 unfold allE
 rw [hn]
 clear hn
 by_cases h1:256<n
 · rw [if_pos h1]
   have h1':(256:Int)<(n:Int):=by omega
   go_enter Tryz.func52,Tryz.ntmps52
   go_wp2
   go_ret2
   exact ⟨rfl,(Grown.refl _).alloc _⟩
 · rw [if_neg h1]
   have h1':¬ (256:Int)<(n:Int):=by omega
   obtain ⟨E,hE⟩:∃ E,fstR rs 0=E:=⟨_,rfl⟩
   have HE:Hid (fstR rs 0=E):=hE
   rw [hE]
   clear hE
   obtain ⟨E1,E2⟩:=E
   simp only
   go_enter Tryz.func52,Tryz.ntmps52
   go_wp2
   go_loopw [4] (fun vi wr=>∃ k:Nat,vi = .int .i64 k∧k≤n∧Hid (fstR (rs.drop k) k=(E1,E2))∧Grown (w.alloc (.cells #[.slice ra n rc] 24)) wr) (fun vi _=>n - (intOf vi).toNat)
   case atStart=>exact ⟨0,rfl,by omega,HE,Grown.refl _⟩
   case round=>
    obtain ⟨k,rfl,hk,hF,hB⟩:=hrel
    have hpos:(0:Int)≤(k:Int):=by omega
    have hkI:(k:Int)≤256:=by omega
    have c0:=hB.cellv (a:=⟨w.heap.size,0,none⟩) (v := .slice ra n rc) (by simp)
    have hG0:Grown w wr:=((Grown.refl w).alloc _).trans hB
    by_cases hlt:k<n
    · have hlt':(k:Int)<(n:Int):=by omega
      have hkl:k<rs.length:=by rw [HN.out];exact hlt
      obtain ⟨a',c',e',_,hP⟩:=HP.out wr hG0
      obtain ⟨g,o,ha',hP2⟩:=hP.resolve_left (fun e=>by rw [e] at hkl;simp at hkl)
      injection e' with e1 e2 e3
      clear e2 e3
      rw [ha'] at e1
      subst e1
      obtain ⟨av,kv,pv,rv,q0,q1,q2,q3,q4,q5,q6,hR⟩:=hP2 k hkl
      have HC:Hid (∀ W,Grown wr W→Calls Tryz.prog 84 #[.agg #[.bool rs[k].bg,av,kv,pv,.bool rs[k].en,rv,.int .i64 rs[k].cu]] W fun e w'=>e = .returned (.int .i64 (chk rs[k]))∧Grown W w'):=fun W hW=>by
       have hg:Grown w W:=hG0.trans hW
       exact rcheck_any rs[k] av kv pv rv W (hR.grown hW)
      obtain ⟨a1,a2,a3,rfl⟩:=hR.a.sl
      obtain ⟨b1,b2,b3,rfl⟩:=hR.k.sl
      obtain ⟨p1,p2,p3,rfl⟩:=hR.p.sl
      obtain ⟨r1,r2,r3,rfl⟩:=hR.r.sl
      have hF2:=hF.out
      rw [drop_rl hkl] at hF2
      unfold fstR at hF2
      generalize hch:chk rs[k]=ch at HC hF2
      generalize rs[k].bg=xb at *
      generalize rs[k].en=xe at *
      generalize rs[k].cu=xc at *
      by_cases hq:ch=0
      · have HF2:Hid (fstR (rs.drop (k+1)) (k+1)=(E1,E2)):=by rw [if_pos hq] at hF2;exact hF2
        subst hq
        clear hF2 hF hch hR hP hP2 ha'
        go_wp2_with (go_at_call 84;refine (HC.out _ (Grown.refl _)).mono ?_;rintro e w' ⟨rfl,hb⟩)
        exact ⟨⟨k+1,by go_num,by omega,HF2,hB.trans hb⟩,by simp [intOf];omega⟩
      · rw [if_neg hq] at hF2
        injection hF2 with f1 f2
        subst f1 f2
        have hq':(ch != 0)=true:=by simpa using hq
        clear hF hch hR hP hP2 ha'
        go_wp2_with (go_at_call 84;refine (HC.out _ (Grown.refl _)).mono ?_;rintro e w' ⟨rfl,hb⟩)
        go_ret2
        exact ⟨rfl,((Grown.refl w).alloc _).trans (hB.trans hb)⟩
    · have hge:¬ (k:Int)<(n:Int):=by omega
      have hF2:=hF.out
      rw [List.drop_eq_nil_of_le (by rw [HN.out];omega)] at hF2
      unfold fstR at hF2
      injection hF2 with f1 f2
      subst f1 f2
      clear hF
      go_wp2
      go_ret2
      exact ⟨rfl,hG0⟩
theorem PsR.take {w:World} {a:Option Addr} {n c:Nat} {rs:List Rl} (h:PsR w (.slice a n c) rs) {m:Nat} (hm:m≤n):PsR w (.slice a m c) (rs.take m):=by
 obtain ⟨a',c',e,h1,h2⟩:=h
 injection e with e1 e2 e3
 subst e1 e2 e3
 have hl:(rs.take m).length=m:=by simp;omega
 refine ⟨a,c,by rw [hl],by omega,?_⟩
 by_cases hz:rs.take m=[]
 · exact .inl hz
 · obtain ⟨g,o,h3,h4⟩:=h2.resolve_left (fun e=>hz (by rw [e];simp))
   refine .inr ⟨g,o,h3,fun j hj => ?_⟩
   rw [List.getElem_take]
   exact h4 j (by simp at hj;omega)
theorem fstC_at:∀ {rs:List Rl} {b k:Nat} (hk:k<rs.length),copB rs[k]=true→(∀ j (h:j<k),copB (rs[j]'(by omega))=false)→fstC rs b=some (b+k)
 | r::l,b,0,hk,h1,h2=>by
  unfold fstC
  rw [if_pos (by simpa using h1)]
  rfl
 | r::l,b,k+1,hk,h1,h2=>by
  unfold fstC
  rw [if_neg (by have:=h2 0 (by omega);simp at this;simp [this]),fstC_at (b:=b+1) (k:=k) (by simpa using hk) (by simpa using h1) (fun j h=>by have:=h2 (j+1) (by omega);simpa using this)]
  congr 1
  omega
theorem chkW_bad {rs:List Rl} (h:(allE rs).2≠0):chkW rs=allE rs:=by
 unfold chkW wgh
 rw [if_pos h]
theorem chkW_cop {rs:List Rl} (hA:(allE rs).2=0) {k:Nat} (hk:k<rs.length) (h1:copB rs[k]=true) (h2:∀ j (h:j<k),copB (rs[j]'(by omega))=false):chkW rs=((k:Int),80):=by
 unfold chkW wgh
 rw [if_neg (by rw [hA];simp),fstC_at hk h1 h2]
 simp
set_option maxHeartbeats 8000000 in
theorem rchkA (v:Value) (rs:List Rl) (w:World) (h:PsR w v rs):Calls Tryz.prog 22 #[.agg #[v]] w fun e w'=>e = .returned (.tuple #[.int .i64 (chkW rs).1,.int .i64 (chkW rs).2])∧Below w.heap.size w w':=by
 have HA:Hid (∀ V,Grown w V→Calls Tryz.prog 52 #[.agg #[v]] V fun e w'=>e = .returned (.tuple #[.int .i64 (allE rs).1,.int .i64 (allE rs).2])∧Grown V w'):=fun V hg=>rall_any v rs V (h.grown hg)
 by_cases hA:(allE rs).2=0
 · have HP:Hid (∀ V,Below w.heap.size w V→PsR V v rs):=fun V hb=>h.below hb (Nat.le_refl _)
   have HOK:Hid (rs.length≤256∧∀ r∈rs,Ok r):=allE_ok hA
   have HL:Hid ((∀ r∈rs,copB r=false)→∀ V,Below w.heap.size w V→Calls Tryz.prog 54 #[v] V (LeA V rs)):=fun hc V hb=>leastA v rs V (h.below hb (Nat.le_refl _)) hA hc
   have HC0:Hid (∀ k (hk:k<rs.length),copB rs[k]=true→(∀ j (h:j<k),copB (rs[j]'(by omega))=false)→chkW rs=((k:Int),80)):=fun k hk h1 h2=>chkW_cop hA hk h1 h2
   have HFE:Hid (fea rs=true→chkW rs=(0,0)):=chkW_fea
   have HFN:Hid ((∀ r∈rs,copB r=false)→fea rs=false→∃ n,n<rs.length∧chkW rs=((n:Int),81)∧(∀ m,m≤n→fea (rs.take m)=true)∧fea (rs.take (n+1))=false):=fun hc hf=>wgh_first hA hc hf
   obtain ⟨ra,rc,hv,hcap,hx2⟩:=h
   subst hv
   have HL2:Hid ((∀ r∈rs,copB r=false)→∀ V i,Below w.heap.size w V→i<rs.length→Calls Tryz.prog 54 #[.slice ra (i+1) rc] V (LeA V (rs.take (i+1)))):=fun hc V i hb hi=>leastA _ _ V ((HP.out V hb).take (by omega)) (allE_take hA _) fun r hr=>hc r (List.mem_of_mem_take hr)
   have HRA:Hid (0<rs.length→∃ g o,ra=some ⟨g,o,none⟩):=fun h0=>by
    rcases hx2 with e | ⟨g,o,e,_⟩
    · rw [e] at h0;simp at h0
    · exact ⟨g,o,e⟩
   clear hx2
   obtain ⟨n,hN⟩:∃ n,rs.length=n:=⟨_,rfl⟩
   have HN:Hid (rs.length=n):=hN
   have hnI:(n:Int)≤256:=by have:=HOK.out.1;omega
   obtain ⟨C1,hC1⟩:∃ C1,(chkW rs).1=C1:=⟨_,rfl⟩
   obtain ⟨C2,hC2⟩:∃ C2,(chkW rs).2=C2:=⟨_,rfl⟩
   have HCC:Hid (∀ a b:Int,chkW rs=(a,b)→C1=a∧C2=b):=fun a b e=>by rw [←hC1,←hC2,e];exact ⟨rfl,rfl⟩
   rw [hC1,hC2]
   rw [hA] at HA
   rw [hN] at HP HA HL hcap HRA ⊢
   have HCP:Hid (n≤rc):=hcap
   clear hN hA hcap hC1 hC2
   go_enter Tryz.func22,Tryz.ntmps22
   go_wp2_with fail
   obtain ⟨wA,hwA⟩:∃ wA,wA=w.alloc (.cells #[.slice ra n rc] 24):=⟨_,rfl⟩
   have HGA:Hid (Grown w wA):=by show Grown _ _;rw [hwA];exact (Grown.refl _).alloc _
   have cA:wA.cell? ⟨w.heap.size,0,none⟩=some (.slice ra n rc):=by rw [hwA];simp
   try rw [←hwA]
   clear hwA
   refine (HA.out _ HGA.out).mono ?_
   rintro e w1 ⟨rfl,hG1⟩
   have HG1:Hid (Grown w w1):=HGA.out.trans hG1
   have c1:=hG1.cellv cA
   clear hG1 cA HA HGA
   generalize (allE rs).1=E1
   go_wp2
   go_loopw [6] (fun vi wr=>∃ k:Nat,vi = .int .i64 k∧k≤n∧Hid (∀ j (h:j<rs.length),j<k→copB rs[j]=false)∧Grown w1 wr) (fun vi _=>n - (intOf vi).toNat)
   case atStart=>exact ⟨0,rfl,by omega,fun j h h0=>by omega,Grown.refl _⟩
   case round=>
    obtain ⟨k,rfl,hk,HCK,hB⟩:=hrel
    have hpos:(0:Int)≤(k:Int):=by omega
    have c0:=hB.cellv c1
    by_cases hlt:k<n
    · have hlt':(k:Int)<(n:Int):=by omega
      have hkl:k<rs.length:=by rw [HN.out];exact hlt
      obtain ⟨a',c',e',_,hP⟩:=HP.out wr ((HG1.out.trans hB).below)
      obtain ⟨g,o,ha',hP2⟩:=hP.resolve_left (fun e=>by rw [e] at hkl;simp at hkl)
      injection e' with e1 e2 e3
      clear e2 e3
      rw [ha'] at e1
      subst e1
      obtain ⟨av,kv,pv,rv,q0,q1,q2,q3,q4,q5,q6,hR⟩:=hP2 k hkl
      obtain ⟨B,hBB⟩:∃ B,copB rs[k]=B:=⟨_,rfl⟩
      have HC:Hid (∀ W,Grown wr W→Calls Tryz.prog 53 #[.agg #[.bool rs[k].bg,av,kv,pv,.bool rs[k].en,rv,.int .i64 rs[k].cu]] W fun e w'=>e = .returned (.bool B)∧Grown W w'):=fun W hW=>by
       have:=wrong_any rs[k] av kv pv rv W (hR.grown hW) (HOK.out.2 _ (List.getElem_mem hkl))
       rw [hBB] at this;exact this
      have HT:Hid (B=true→C1=(k:Int)∧C2=80):=fun hb=>HCC.out _ _ (HC0.out k hkl (hBB.trans hb) fun j hj=>HCK.out j (by omega) hj)
      have HF:Hid (B=false→∀ j (h:j<rs.length),j<k+1→copB rs[j]=false):=fun hb j hj hjk=>by
       by_cases e:j=k
       · subst e;rw [hBB,hb]
       · exact HCK.out j hj (by omega)
      obtain ⟨a1,a2,a3,rfl⟩:=hR.a.sl
      obtain ⟨b1,b2,b3,rfl⟩:=hR.k.sl
      obtain ⟨p1,p2,p3,rfl⟩:=hR.p.sl
      obtain ⟨r1,r2,r3,rfl⟩:=hR.r.sl
      generalize rs[k].bg=xb at *
      generalize rs[k].en=xe at *
      generalize rs[k].cu=xc at *
      clear hR hP hP2 ha' hBB
      have HGB:Hid (Below w.heap.size w wr):=(HG1.out.trans hB).below
      cases B with
      | false=>
       as_aux_lemma=>
        go_wp2_with (go_at_call 53;refine (HC.out _ (Grown.refl _)).mono ?_;rintro e w' ⟨rfl,hb⟩)
        exact ⟨⟨k+1,by go_num,by omega,HF.out (by trivial),hB.trans hb⟩,by simp [intOf];omega⟩
      | true=>
       as_aux_lemma=>
        have HT2:=HT.out rfl
        obtain ⟨h1,h2⟩:=HT2
        subst h1 h2
        go_wp2_with (go_at_call 53;refine (HC.out _ (Grown.refl _)).mono ?_;rintro e w' ⟨rfl,hb⟩)
        go_ret2
        exact ⟨rfl,HGB.out.trans (hb.below.mono HGB.out.size)⟩
    · have hge:¬ (k:Int)<(n:Int):=by omega
      have HG2:Hid (Grown w wr):=HG1.out.trans hB
      have HCA:Hid (∀ r∈rs,copB r=false):=fun r hr=>by
       obtain ⟨j,hj,rfl⟩:=List.getElem_of_mem hr
       exact HCK.out j hj (by have:=HN.out;omega)
      clear hB HCK HC0
      go_wp2_with fail
      refine (HL.out HCA.out _ HG2.out.below).mono ?_
      rintro e w2 ⟨lv,wv,⟨l1,l2,l3,rfl⟩,⟨l4,l5,l6,rfl⟩,rfl,hB2,_⟩
      have c2:=cell_below c0 hB2 (Nat.le_refl _)
      have HBF:Hid (Below w.heap.size w w2):=HG2.out.below.trans (hB2.mono HG2.out.size)
      have HBG:Hid (∀ V,Grown w2 V→Below w.heap.size w V):=fun V hg=>HBF.out.trans (hg.below.mono HBF.out.size)
      clear hB2 c0 HL HG2 HG1 c1
      cases hfe:fea rs with
      | true=>
       obtain ⟨h1,h2⟩:=HCC.out _ _ (HFE.out hfe)
       subst h1 h2
       go_wp2
       by_cases hn0:n=0
       · subst hn0
         go_loopw [9] (fun vi wr=>vi = .int .i64 0∧Grown w2 wr) (fun _ _=>0)
         case atStart=>exact ⟨rfl,by (repeat (first | exact Grown.refl _ | refine Grown.alloc ?_ _ | refine Grown.drew ?_ | refine Grown.drewN ?_ _ | refine Grown.quiet ?_ _ _))⟩
         case round=>
          obtain ⟨rfl,hg⟩:=hrel
          have c4:=hg.cellv c2
          go_wp2
          go_ret2
          exact ⟨rfl,HBG.out _ hg⟩
       · have hn1:(0:Int)<(n:Int):=by omega
         have hn2:0<n:=by omega
         go_loopw [9] (fun vi wr=>vi = .int .i64 0∧Grown w2 wr) (fun _ _=>0)
         case atStart=>exact ⟨rfl,by (repeat (first | exact Grown.refl _ | refine Grown.alloc ?_ _ | refine Grown.drew ?_ | refine Grown.drewN ?_ _ | refine Grown.quiet ?_ _ _))⟩
         case round=>
          obtain ⟨rfl,hg⟩:=hrel
          have c4:=hg.cellv c2
          go_wp2
          go_ret2
          exact ⟨rfl,HBG.out _ hg⟩
      | false=>
       obtain ⟨n0,hn0,hcw,hyes,hno⟩:=HFN.out HCA.out hfe
       obtain ⟨h1,h2⟩:=HCC.out _ _ hcw
       subst h1 h2
       have hn0n:n0<n:=by rw [HN.out] at hn0;exact hn0
       have HY:Hid (∀ m,m≤n0→fea (rs.take m)=true):=hyes
       have HNO:Hid (fea (rs.take (n0+1))=false):=hno
       obtain ⟨rg1,ro1,hra⟩:=HRA.out (by omega)
       subst hra
       clear hyes hno hcw hn0 hfe
       go_wp2
       obtain ⟨bk,hbk⟩:∃ bk,w.heap.size=bk:=⟨_,rfl⟩
       have HBK:Hid (w.heap.size=bk):=hbk
       rw [hbk] at c2 ⊢
       clear hbk
       go_loopw [9] (fun vi wr=>∃ i:Nat,vi = .int .i64 i∧i≤n0∧Below bk w wr∧wr.cell? ⟨bk,0,none⟩=some (.slice (some ⟨rg1,ro1,none⟩) n rc)) (fun vi _=>n - (intOf vi).toNat)
       case atStart=>
        refine ⟨0,rfl,by omega,?_,?_⟩
        · rw [←HBK.out];exact HBG.out _ (by (repeat (first | exact Grown.refl _ | refine Grown.alloc ?_ _ | refine Grown.drew ?_ | refine Grown.drewN ?_ _ | refine Grown.quiet ?_ _ _)))
        · exact Grown.cellv (by (repeat (first | exact Grown.refl _ | refine Grown.alloc ?_ _ | refine Grown.drew ?_ | refine Grown.drewN ?_ _ | refine Grown.quiet ?_ _ _))) c2
       case round=>
        obtain ⟨i,rfl,hi,hBi,ci⟩:=hrel
        have hi0:(0:Int)≤(i:Int):=by omega
        have hin:i<n:=by omega
        have hinI:(i:Int)<(n:Int):=by omega
        have hcpI:(i:Int)+1≤(rc:Int):=by have:=HCP.out;omega
        have hl1:i+1≤rc:=by have:=HCP.out;omega
        have hdI:decide ((i:Int)<(n:Int))=true:=by simpa using hinI
        have hdN:decide (i<n)=true:=by simpa using hin
        have HBI:Hid (∀ V,Grown wr V→Below bk w V):=fun V hg=>hBi.trans (hg.below.mono (by have:=hBi.size;have:=HBK.out;omega))
        obtain ⟨B,hBB⟩:∃ B,fea (rs.take (i+1))=B:=⟨_,rfl⟩
        have HCL:Hid (∀ V,Grown wr V→Calls Tryz.prog 54 #[.slice (some ⟨rg1,ro1,none⟩) (i+1) rc] V fun e w'=>∃ a1 a2 a3 b1 b2 b3,e = .returned (.tuple #[.agg #[.slice a1 a2 a3,.slice b1 b2 b3],.bool B])∧Below V.heap.size V w'):=fun V hg=>(HL2.out HCA.out V i (by rw [HBK.out];exact HBI.out V hg) (by rw [HN.out];exact hin)).mono fun e w' hq=>by
         obtain ⟨lv,wv,⟨a1,a2,a3,rfl⟩,⟨b1,b2,b3,rfl⟩,rfl,h2,_⟩:=hq
         exact ⟨a1,a2,a3,b1,b2,b3,by rw [hBB],h2⟩
        have HB1:Hid (B=false→i=n0):=fun hb=>by
         by_cases e:i=n0
         · exact e
         · have:=HY.out (i+1) (by omega);rw [hBB,hb] at this;cases this
        have HB2:Hid (B=true→i<n0):=fun hb=>by
         by_cases e:i=n0
         · subst e;rw [hBB,hb] at HNO;cases HNO
         · omega
        have HAf:Hid (∀ V W,Grown wr V→Below V.heap.size V W→Below bk w W∧W.cell? ⟨bk,0,none⟩=some (.slice (some ⟨rg1,ro1,none⟩) n rc)):=fun V W hg hb=>⟨(HBI.out V hg).trans (hb.mono (by have:=(HBI.out V hg).size;have:=HBK.out;omega)),cell_below (hg.cellv ci) hb (Nat.le_refl _)⟩
        clear hBi hBB
        go_wp2_with fail
        refine (HCL.out _ (by (repeat (first | exact Grown.refl _ | refine Grown.alloc ?_ _ | refine Grown.drew ?_ | refine Grown.drewN ?_ _ | refine Grown.quiet ?_ _ _)))).mono ?_
        rintro e w3 ⟨a1,a2,a3,b1,b2,b3,rfl,hB3⟩
        have H3:=Hid.mk' (HAf.out _ _ (by (repeat (first | exact Grown.refl _ | refine Grown.alloc ?_ _ | refine Grown.drew ?_ | refine Grown.drewN ?_ _ | refine Grown.quiet ?_ _ _))) hB3)
        clear hB3 HAf HCL
        have HGE:Hid (∀ V,Grown w3 V→Below bk w V∧V.cell? ⟨bk,0,none⟩=some (.slice (some ⟨rg1,ro1,none⟩) n rc)):=fun V hg=>⟨H3.out.1.trans (hg.below.mono (by have:=H3.out.1.size;have:=HBK.out;omega)),hg.cellv H3.out.2⟩
        cases B with
        | false=>
         have hi:=HB1.out (by trivial)
         subst hi
         go_wp2
         go_ret2
         exact ⟨rfl,by rw [HBK.out];exact (HGE.out _ (by (repeat (first | exact Grown.refl _ | refine Grown.alloc ?_ _ | refine Grown.drew ?_ | refine Grown.drewN ?_ _ | refine Grown.quiet ?_ _ _)))).1⟩
        | true=>
         have hi:=HB2.out (by trivial)
         go_wp2
         exact ⟨⟨i+1,by go_num,by omega,(HGE.out _ (by (repeat (first | exact Grown.refl _ | refine Grown.alloc ?_ _ | refine Grown.drew ?_ | refine Grown.drewN ?_ _ | refine Grown.quiet ?_ _ _)))).1,(HGE.out _ (by (repeat (first | exact Grown.refl _ | refine Grown.alloc ?_ _ | refine Grown.drew ?_ | refine Grown.drewN ?_ _ | refine Grown.quiet ?_ _ _)))).2⟩,by simp [intOf];omega⟩
 · have HX:=chkW_bad hA
   rw [HX]
   have hne:((allE rs).2 != 0)=true:=by simpa using hA
   obtain ⟨v1,v2,v3,rfl⟩:∃ a b c,v = .slice a b c:=by obtain ⟨a,c,e,_⟩:=h;exact ⟨_,_,_,e⟩
   generalize (allE rs).1=E1 at *
   generalize (allE rs).2=E2 at *
   clear HX h
   go_enter Tryz.func22,Tryz.ntmps22
   go_wp2_with (go_at_call 52;refine (HA.out _ ((Grown.refl _).alloc _)).mono ?_;rintro e w1 ⟨rfl,hg1⟩)
   go_ret2
   exact ⟨rfl,(((Grown.refl _).alloc _).trans hg1).below⟩
end Go.Proofs
