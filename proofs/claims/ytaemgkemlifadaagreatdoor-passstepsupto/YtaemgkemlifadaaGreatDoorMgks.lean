/-
  Several texts in one (Qa Qb Je Jg Ta Tb Tc Tf Tg).
-/
import Derived.Test.YtaemgkemlifadaaGreatDoorWcs
import Derived.Test.YtaemgkemlifadaaGreatDoorRbs
import Derived.Test.YtaemgkemlifadaaGreatDoorMgjs
import Derived.Test.YtaemgkemlifadaaGreatDoorRcs
import Derived.Laws.CopyRow
import Derived.Laws.IdiomCopy
import Derived.Test.YtaemgkemlifadaaGreatDoorMgis
import Derived.Lib.RuneCountTail
import Derived.Test.YtaemgkemlifadaaGreatDoorTes
import Derived.Test.YtaemgkemlifadaaGreatDoorMggs
import Derived.Test.YtaemgkemlifadaaGreatDoorMgbs
namespace Go.Proofs
open Go.RowKit Go.Shelf
set_option maxRecDepth 100000
attribute [local go_sem] Oper.semAt_some
attribute [local go_sem ↓] Go.wp_at_zero Go.wp_at_succ
theorem okS_split {l:List (Int × Int)} : okS l=(validB l && decide (l.length≠0)):=by
 unfold okS
 cases l <;> simp
set_option maxHeartbeats 1000000 in
theorem rsets_nil (a:Option Addr) (c:Nat) (w:World):Calls Tryz.prog 89 #[.slice a 0 c] w fun e w'=>e = .returned (.bool true)∧Grown w w':=by
 go_enter Tryz.func89,Tryz.ntmps89
 go_wp2
 go_loopw [3] (fun vi wr=>vi = .int .i64 0∧wr=w) (fun _ _=>0)
 case atStart=>exact ⟨rfl,rfl⟩
 case round=>
  obtain ⟨rfl,rfl⟩:=hrel
  go_wp2
  go_ret
  exact ⟨rfl,Grown.refl _⟩
set_option maxHeartbeats 2000000 in
theorem rsets_walk (g o c:Nat) (ls:List (List (Int × Int))) (w:World) (h:SRd w g o ls) (hn1:ls.length≤1000000) :
 Calls Tryz.prog 89 #[.slice (some ⟨g,o,none⟩) ls.length c] w fun e w'=>e = .returned (.bool (ls.all okS))∧Grown w w':=by
 obtain ⟨n,hnn⟩:∃ n,ls.length=n:=⟨_,rfl⟩
 have HN:Hid (ls.length=n):=hnn
 rw [hnn] at hn1 ⊢
 obtain ⟨r,hr⟩:∃ r:Bool,ls.all okS=r:=⟨_,rfl⟩
 have HR:Hid (ls.all okS=r):=hr
 rw [hr]
 clear hr hnn
 have HH:Hid (SRd w g o ls):=h
 clear h
 go_enter Tryz.func89,Tryz.ntmps89
 go_wp2
 go_loopw [3] (fun vi wr=>∃ k:Nat,vi = .int .i64 k∧k≤n∧Hid ((ls.take k).all okS=true)∧Grown w wr) (fun vi _=>n - (intOf vi).toNat)
 case atStart=>exact ⟨0,rfl,by omega,by simp [Hid],Grown.refl _⟩
 case round=>
  obtain ⟨k,rfl,hk,hG,hB⟩:=hrel
  have hpos:(0:Int)≤(k:Int):=by omega
  by_cases hlt:k<n
  · have hlt':(k:Int)<(n:Int):=by omega
    have hkl:k<ls.length:=by rw [HN.out];exact hlt
    obtain ⟨sv,hc,hs⟩:=HH.out k hkl
    have hc:=hB.cellv hc
    have HC:Hid (∀ W,Grown wr W→Calls Tryz.prog 41 #[sv] W fun e w'=>e = .returned (.bool (validB ls[k]))∧Grown W w'):=fun W hW=>rvalid_any sv _ W ((hs.grown hB).grown hW)
    obtain ⟨sa,sc,rfl,_,_⟩:=hs
    have hO:okS ls[k]=(validB ls[k] && decide (ls[k].length≠0)):=okS_split
    have HS:Hid (okS ls[k]=true→(ls.take (k+1)).all okS=true):=fun hv=>by rw [all_succ okS hkl,hG.out,hv];rfl
    have HF0:Hid (okS ls[k]=false→r=false):=fun hv=>by rw [←HR.out];exact all_stop okS hkl hv
    clear hG
    generalize validB ls[k]=vb at *
    generalize ls[k].length=sn at *
    generalize okS ls[k]=ob at *
    cases vb with
    | false=>
     have HF:Hid (r=false):=HF0.out (by rw [hO];rfl)
     clear hO HS HF0
     go_wp2_with (go_at_call 41;refine (HC.out _ (Grown.refl _)).mono ?_;rintro e w' ⟨rfl,hb⟩)
     go_ret
     have hrf:=HF.out
     exact ⟨by first | rfl | (rw [hrf];rfl),hB.trans hb⟩
    | true=>
     by_cases h0:sn=0
     · have HF:Hid (r=false):=HF0.out (by rw [hO];simp [h0])
       clear hO HS HF0
       subst h0
       go_wp2_with fail
       refine (HC.out _ (Grown.refl _)).mono ?_
       rintro e w1 ⟨rfl,hb⟩
       have hc:=hb.cellv hc
       go_wp2
       go_ret
       have hrf:=HF.out
       exact ⟨by first | rfl | (rw [hrf];rfl),hB.trans hb⟩
     · have HS2:Hid ((ls.take (k+1)).all okS=true):=HS.out (by rw [hO];simp [h0])
       have h1:((sn:Int) == 0)=false:=by simpa using h0
       clear hO HS HF0
       go_wp2_with fail
       refine (HC.out _ (Grown.refl _)).mono ?_
       rintro e w1 ⟨rfl,hb⟩
       have hc:=hb.cellv hc
       go_wp2
       exact ⟨⟨k+1,by go_num,by omega,HS2,hB.trans hb⟩,by simp [intOf];omega⟩
  · have hrt:r=true:=by
     rw [←HR.out]
     have:=hG.out
     rwa [List.take_of_length_le (by rw [HN.out];omega)] at this
    have HF:Hid (r=true):=hrt
    clear hG hrt
    go_wp2
    go_ret
    have hrf:=HF.out
    exact ⟨by first | rfl | (rw [hrf];rfl),hB⟩
theorem rsets_any (v:Value) (ls:List (List (Int × Int))) (w:World) (h:SR w v ls) (hn:ls.length≤1000000):Calls Tryz.prog 89 #[v] w fun e w'=>e = .returned (.bool (ls.all okS))∧Grown w w':=by
 obtain ⟨a,cap,rfl,_,h⟩:=h
 rcases h with rfl | ⟨g,o,rfl,h⟩
 · exact rsets_nil a cap w
 · exact rsets_walk g o cap ls w h hn
set_option maxHeartbeats 4000000 in
theorem rp_unit (bg en:Bool) (cu:Int) (aa ka pa ra:Option Addr) (an ac kn kc pn pc rn rc:Nat) (u y:Int) (ta:Option Addr) (tn tc:Nat) (w:World):Calls Tryz.prog 90 #[.agg #[.bool bg,.slice aa an ac,.slice ka kn kc,.slice pa pn pc,.bool en,.slice ra rn rc,.int .i64 cu],.agg #[.int .i64 1,.int .i64 u,.int .i64 y,.slice ta tn tc]] w fun e w'=>e = .returned (.int .i64 (if wd u=0∨y≠0∨tn≠0 then 73 else 0))∧Grown w w':=by
 have HC:=runit_any u
 by_cases h1:wd u=0
 · rw [if_pos (.inl h1)]
   have hb:isUn u=false:=by simp [isUn,h1]
   rw [hb] at HC
   clear h1 hb
   go_enter Tryz.func90,Tryz.ntmps90
   go_wp2_with (go_at_call 107;refine (HC _).mono ?_;rintro e w' ⟨rfl,rfl⟩)
   go_ret
   exact ⟨rfl,((Grown.refl _).alloc _).alloc _⟩
 · have hb:isUn u=true:=by simp [isUn,h1]
   rw [hb] at HC
   by_cases h2:y=0
   · by_cases h3:tn=0
     · rw [if_neg (by simp [h1,h2,h3])]
       subst h2 h3
       clear h1 hb
       go_enter Tryz.func90,Tryz.ntmps90
       go_wp2_with (go_at_call 107;refine (HC _).mono ?_;rintro e w' ⟨rfl,rfl⟩)
       go_ret
       exact ⟨rfl,((Grown.refl _).alloc _).alloc _⟩
     · rw [if_pos (.inr (.inr h3))]
       subst h2
       have h4:((tn:Int) == 0)=false:=by simpa using h3
       clear h1 hb
       go_enter Tryz.func90,Tryz.ntmps90
       go_wp2_with (go_at_call 107;refine (HC _).mono ?_;rintro e w' ⟨rfl,rfl⟩)
       go_ret
       exact ⟨rfl,((Grown.refl _).alloc _).alloc _⟩
   · rw [if_pos (.inr (.inl h2))]
     have h4:(y == 0)=false:=by simpa using h2
     clear h1 hb
     go_enter Tryz.func90,Tryz.ntmps90
     go_wp2_with (go_at_call 107;refine (HC _).mono ?_;rintro e w' ⟨rfl,rfl⟩)
     go_ret
     exact ⟨rfl,((Grown.refl _).alloc _).alloc _⟩
set_option maxHeartbeats 4000000 in
theorem rp_other (bg en:Bool) (cu:Int) (aa ka pa ra:Option Addr) (an ac kn kc pn pc rn rc:Nat) (k u y:Int) (ta:Option Addr) (tn tc:Nat) (w:World) (h1:k≠1) (h2:k≠2) (h3:k≠3):Calls Tryz.prog 90 #[.agg #[.bool bg,.slice aa an ac,.slice ka kn kc,.slice pa pn pc,.bool en,.slice ra rn rc,.int .i64 cu],.agg #[.int .i64 k,.int .i64 u,.int .i64 y,.slice ta tn tc]] w fun e w'=>e = .returned (.int .i64 73)∧Grown w w':=by
 have e1:(k == 1)=false:=by simpa using h1
 have e2:(k == 2)=false:=by simpa using h2
 have e3:(k == 3)=false:=by simpa using h3
 go_enter Tryz.func90,Tryz.ntmps90
 go_wp2
 go_ret
 exact ⟨rfl,((Grown.refl _).alloc _).alloc _⟩
set_option maxHeartbeats 4000000 in
theorem rp_copy (bg en:Bool) (cu:Int) (aa ka pa ra:Option Addr) (an ac kn kc pn pc rn rc:Nat) (u y:Int) (ta:Option Addr) (tn tc:Nat) (w:World):Calls Tryz.prog 90 #[.agg #[.bool bg,.slice aa an ac,.slice ka kn kc,.slice pa pn pc,.bool en,.slice ra rn rc,.int .i64 cu],.agg #[.int .i64 2,.int .i64 u,.int .i64 y,.slice ta tn tc]] w fun e w'=>e = .returned (.int .i64 (if u≠0∨tn≠0 then 73 else if y<0∨(kn:Int)≤y then 74 else 0))∧Grown w w':=by
 have hm:=mixed
 by_cases h1:u=0
 · subst h1
   by_cases h2:tn=0
   · subst h2
     rw [if_neg (by simp)]
     by_cases h3:y<0
     · rw [if_pos (.inl h3)]
       go_enter Tryz.func90,Tryz.ntmps90
       go_wp2
       go_ret
       exact ⟨rfl,((Grown.refl _).alloc _).alloc _⟩
     · have d3:decide (y<0)=false:=by simpa using h3
       by_cases h4:(kn:Int)≤y
       · rw [if_pos (.inr h4)]
         go_enter Tryz.func90,Tryz.ntmps90
         go_wp2
         go_ret
         exact ⟨rfl,((Grown.refl _).alloc _).alloc _⟩
       · rw [if_neg (by omega)]
         have d4:decide ((kn:Int)≤y)=false:=by simpa using h4
         have e0:∀ m os,(Go.Sort.grow (((w.alloc (.cells #[.bool bg,.slice aa an ac,.slice ka kn kc,.slice pa pn pc,.bool en,.slice ra rn rc,.int .i64 cu] 53)).alloc (.cells #[.int .i64 2,.int .i64 0,.int .i64 y,.slice ta 0 tc] 65)).drewN m) os).cell? ⟨w.heap.size+1,0,none⟩=some (.int .i64 2):=fun m os=>cell_grown (by simp) (by simp) m os
         go_enter Tryz.func90,Tryz.ntmps90
         go_wp2
         refine wp_region_quiet_grown hm (by kernel_rfl) ?_
         repeat (go_big_quiet_step (fail))
         refine wpQuiet_nil ?_
         intro _ hw'
         obtain ⟨⟨nq,osq⟩,hw''⟩:=hw'
         subst hw''
         go_wp2
         go_ret
         exact ⟨rfl,(((Grown.refl _).alloc _).alloc _).quiet _ _⟩
   · rw [if_pos (.inr h2)]
     have h4:((tn:Int) == 0)=false:=by simpa using h2
     go_enter Tryz.func90,Tryz.ntmps90
     go_wp2
     go_ret
     exact ⟨rfl,((Grown.refl _).alloc _).alloc _⟩
 · rw [if_pos (.inl h1)]
   have hq2:(u == 0)=false:=by simpa using h1
   go_enter Tryz.func90,Tryz.ntmps90
   go_wp2
   go_ret
   exact ⟨rfl,((Grown.refl _).alloc _).alloc _⟩
set_option maxHeartbeats 8000000 in
theorem rp_pair_in (bg en:Bool) (cu:Int) (aa pa ra:Option Addr) (an ac kn kc pn pc rn rc:Nat) (g o j:Nat) (sv:Value) (f tl:List (Int × Int)) (ta:Option Addr) (tn tc:Nat) (w:World) (hj:j<kn) (hc:w.cell? ⟨g,o+j,none⟩=some sv) (hf:Rs w sv f) (ht:Rs w (.slice ta tn tc) tl) :
 Calls Tryz.prog 90 #[.agg #[.bool bg,.slice aa an ac,.slice (some ⟨g,o,none⟩) kn kc,.slice pa pn pc,.bool en,.slice ra rn rc,.int .i64 cu],.agg #[.int .i64 3,.int .i64 0,.int .i64 j,.slice ta tn tc]] w fun e w'=>e = .returned (.int .i64 (if matB f tl=false then 75 else 0))∧Grown w w':=by
 have hm:=mixed
 have HV:Hid (∀ m os,Calls Tryz.prog 41 #[.slice ta tn tc] (Go.Sort.grow (((w.alloc (.cells #[.bool bg,.slice aa an ac,.slice (some ⟨g,o,none⟩) kn kc,.slice pa pn pc,.bool en,.slice ra rn rc,.int .i64 cu] 53)).alloc (.cells #[.int .i64 3,.int .i64 0,.int .i64 (j:Int),.slice ta tn tc] 65)).drewN m) os) fun e w'=>e = .returned (.bool (validB tl))∧Grown (Go.Sort.grow (((w.alloc (.cells #[.bool bg,.slice aa an ac,.slice (some ⟨g,o,none⟩) kn kc,.slice pa pn pc,.bool en,.slice ra rn rc,.int .i64 cu] 53)).alloc (.cells #[.int .i64 3,.int .i64 0,.int .i64 (j:Int),.slice ta tn tc] 65)).drewN m) os) w'):=fun m os=>rvalid_any _ tl _ (ht.grown ((((Grown.refl _).alloc _).alloc _).quiet m os))
 have HL:Hid (∀ m os,Calls Tryz.prog 106 #[.slice ta tn tc] (Go.Sort.grow (((w.alloc (.cells #[.bool bg,.slice aa an ac,.slice (some ⟨g,o,none⟩) kn kc,.slice pa pn pc,.bool en,.slice ra rn rc,.int .i64 cu] 53)).alloc (.cells #[.int .i64 3,.int .i64 0,.int .i64 (j:Int),.slice ta tn tc] 65)).drewN m) os) fun e w'=>e = .returned (.int .i64 (lenU tl))∧Grown (Go.Sort.grow (((w.alloc (.cells #[.bool bg,.slice aa an ac,.slice (some ⟨g,o,none⟩) kn kc,.slice pa pn pc,.bool en,.slice ra rn rc,.int .i64 cu] 53)).alloc (.cells #[.int .i64 3,.int .i64 0,.int .i64 (j:Int),.slice ta tn tc] 65)).drewN m) os) w'):=fun m os=>rlen_any _ tl _ (ht.grown ((((Grown.refl _).alloc _).alloc _).quiet m os))
 have HF:Hid (∀ m os,Calls Tryz.prog 106 #[sv] (Go.Sort.grow (((w.alloc (.cells #[.bool bg,.slice aa an ac,.slice (some ⟨g,o,none⟩) kn kc,.slice pa pn pc,.bool en,.slice ra rn rc,.int .i64 cu] 53)).alloc (.cells #[.int .i64 3,.int .i64 0,.int .i64 (j:Int),.slice ta tn tc] 65)).drewN m) os) fun e w'=>e = .returned (.int .i64 (lenU f))∧Grown (Go.Sort.grow (((w.alloc (.cells #[.bool bg,.slice aa an ac,.slice (some ⟨g,o,none⟩) kn kc,.slice pa pn pc,.bool en,.slice ra rn rc,.int .i64 cu] 53)).alloc (.cells #[.int .i64 3,.int .i64 0,.int .i64 (j:Int),.slice ta tn tc] 65)).drewN m) os) w'):=fun m os=>rlen_any _ f _ (hf.grown ((((Grown.refl _).alloc _).alloc _).quiet m os))
 have e0:∀ m os,(Go.Sort.grow (((w.alloc (.cells #[.bool bg,.slice aa an ac,.slice (some ⟨g,o,none⟩) kn kc,.slice pa pn pc,.bool en,.slice ra rn rc,.int .i64 cu] 53)).alloc (.cells #[.int .i64 3,.int .i64 0,.int .i64 (j:Int),.slice ta tn tc] 65)).drewN m) os).cell? ⟨w.heap.size+1,0,none⟩=some (.int .i64 3):=fun m os=>cell_grown (by simp) (by simp) m os
 have e2:∀ m os,(Go.Sort.grow (((w.alloc (.cells #[.bool bg,.slice aa an ac,.slice (some ⟨g,o,none⟩) kn kc,.slice pa pn pc,.bool en,.slice ra rn rc,.int .i64 cu] 53)).alloc (.cells #[.int .i64 3,.int .i64 0,.int .i64 (j:Int),.slice ta tn tc] 65)).drewN m) os).cell? ⟨w.heap.size+1,2,none⟩=some (.int .i64 (j:Int)):=fun m os=>cell_grown (by simp) (by simp) m os
 have e3:∀ m os,(Go.Sort.grow (((w.alloc (.cells #[.bool bg,.slice aa an ac,.slice (some ⟨g,o,none⟩) kn kc,.slice pa pn pc,.bool en,.slice ra rn rc,.int .i64 cu] 53)).alloc (.cells #[.int .i64 3,.int .i64 0,.int .i64 (j:Int),.slice ta tn tc] 65)).drewN m) os).cell? ⟨w.heap.size+1,3,none⟩=some (.slice ta tn tc):=fun m os=>cell_grown (by simp) (by simp) m os
 have e5:∀ m os,(Go.Sort.grow (((w.alloc (.cells #[.bool bg,.slice aa an ac,.slice (some ⟨g,o,none⟩) kn kc,.slice pa pn pc,.bool en,.slice ra rn rc,.int .i64 cu] 53)).alloc (.cells #[.int .i64 3,.int .i64 0,.int .i64 (j:Int),.slice ta tn tc] 65)).drewN m) os).cell? ⟨w.heap.size,2,none⟩=some (.slice (some ⟨g,o,none⟩) kn kc):=fun m os=>cell_grown (by simp;omega) (cell_up (by simp) _) m os
 have e4:∀ m os,(Go.Sort.grow (((w.alloc (.cells #[.bool bg,.slice aa an ac,.slice (some ⟨g,o,none⟩) kn kc,.slice pa pn pc,.bool en,.slice ra rn rc,.int .i64 cu] 53)).alloc (.cells #[.int .i64 3,.int .i64 0,.int .i64 (j:Int),.slice ta tn tc] 65)).drewN m) os).cell? ⟨g,o+j,none⟩=some sv:=fun m os=>((((Grown.refl _).alloc _).alloc _).quiet m os).cellv hc
 have hj0:(0:Int)≤(j:Int):=by omega
 have hj1:(j:Int)<(kn:Int):=by omega
 have d3:decide ((j:Int)<0)=false:=by simp
 have d4:decide ((kn:Int)≤(j:Int))=false:=by simp;omega
 unfold matB
 generalize validB tl=vb at HV
 generalize lenU tl=lt at HL
 generalize lenU f=lf at HF
 obtain ⟨sa,sn,sc,rfl⟩:=hf.sl
 clear hf ht hc
 cases vb with
 | false=>
  rw [if_pos (by simp)]
  go_enter Tryz.func90,Tryz.ntmps90
  go_wp2
  refine wp_region_quiet_grown hm (by kernel_rfl) ?_
  repeat (go_big_quiet_step ((go_at_call 41;exact grown_of (HV.out _ _))))
  refine wpQuiet_nil ?_
  intro _ hw'
  obtain ⟨⟨nq,osq⟩,hw''⟩:=hw'
  subst hw''
  go_wp2
  go_ret
  exact ⟨rfl,(((Grown.refl _).alloc _).alloc _).quiet _ _⟩
 | true=>
  by_cases he:lf=lt
  · rw [if_neg (by simp [he])]
    subst he
    go_enter Tryz.func90,Tryz.ntmps90
    go_wp2
    refine wp_region_quiet_grown hm (by kernel_rfl) ?_
    repeat (go_big_quiet_step ((go_at_call 41;exact grown_of (HV.out _ _))))
    go_big_quiet_step ((go_at_call 106;exact grown_of (HL.out _ _)))
    repeat (go_big_quiet_step ((go_at_call 106;exact grown_of (HF.out _ _))))
    refine wpQuiet_nil ?_
    intro _ hw'
    obtain ⟨⟨nq,osq⟩,hw''⟩:=hw'
    subst hw''
    go_wp2
    go_ret
    exact ⟨rfl,(((Grown.refl _).alloc _).alloc _).quiet _ _⟩
  · rw [if_pos (by simp [he])]
    have hne:(lt != lf)=true:=by simpa using fun e=>he e.symm
    go_enter Tryz.func90,Tryz.ntmps90
    go_wp2
    refine wp_region_quiet_grown hm (by kernel_rfl) ?_
    repeat (go_big_quiet_step ((go_at_call 41;exact grown_of (HV.out _ _))))
    go_big_quiet_step ((go_at_call 106;exact grown_of (HL.out _ _)))
    repeat (go_big_quiet_step ((go_at_call 106;exact grown_of (HF.out _ _))))
    refine wpQuiet_nil ?_
    intro _ hw'
    obtain ⟨⟨nq,osq⟩,hw''⟩:=hw'
    subst hw''
    go_wp2
    go_ret
    exact ⟨rfl,(((Grown.refl _).alloc _).alloc _).quiet _ _⟩
set_option maxHeartbeats 4000000 in
theorem rp_pair_no (bg en:Bool) (cu:Int) (aa ka pa ra:Option Addr) (an ac kn kc pn pc rn rc:Nat) (u y:Int) (ta:Option Addr) (tn tc:Nat) (w:World) (h:u≠0∨y<0∨(kn:Int)≤y):Calls Tryz.prog 90 #[.agg #[.bool bg,.slice aa an ac,.slice ka kn kc,.slice pa pn pc,.bool en,.slice ra rn rc,.int .i64 cu],.agg #[.int .i64 3,.int .i64 u,.int .i64 y,.slice ta tn tc]] w fun e w'=>e = .returned (.int .i64 (if u≠0 then 73 else 74))∧Grown w w':=by
 by_cases h1:u=0
 · subst h1
   rw [if_neg (by simp)]
   by_cases h3:y<0
   · clear h
     go_enter Tryz.func90,Tryz.ntmps90
     go_wp2
     go_ret
     exact ⟨rfl,((Grown.refl _).alloc _).alloc _⟩
   · have d3:decide (y<0)=false:=by simpa using h3
     have h4:(kn:Int)≤y:=by omega
     clear h
     go_enter Tryz.func90,Tryz.ntmps90
     go_wp2
     go_ret
     exact ⟨rfl,((Grown.refl _).alloc _).alloc _⟩
 · rw [if_pos h1]
   have hq2:(u == 0)=false:=by simpa using h1
   clear h
   go_enter Tryz.func90,Tryz.ntmps90
   go_wp2
   go_ret
   exact ⟨rfl,((Grown.refl _).alloc _).alloc _⟩
theorem rpiece_any (r:Rl) (av kv pv rv:Value) (p:Pc) (tv:Value) (w:World) (h:RR w av kv pv rv r) (ht:Rs w tv p.tl):Calls Tryz.prog 90 #[.agg #[.bool r.bg,av,kv,pv,.bool r.en,rv,.int .i64 r.cu],.agg #[.int .i64 p.k,.int .i64 p.u,.int .i64 p.y,tv]] w fun e w'=>e = .returned (.int .i64 (pcE r.key p))∧Grown w w':=by
 obtain ⟨aa,an,ac,rfl⟩:=h.a.sl
 obtain ⟨ka,kc,rfl,_,hk⟩:=h.k
 obtain ⟨pa,pn,pc,rfl⟩:=h.p.sl
 obtain ⟨ra,rn,rc,rfl⟩:=h.r.sl
 obtain ⟨k,u,y,tl⟩:=p
 simp only at ht ⊢
 obtain ⟨ta,tn,tc,rfl⟩:=ht.sl
 have hl:=len_zero_iff ht
 unfold pcE
 simp only
 by_cases h1:k=1
 · subst h1
   rw [if_pos rfl]
   have:=rp_unit r.bg r.en r.cu aa ka pa ra an ac r.key.length kc pn pc rn rc u y ta tn tc w
   rw [hl] at this ⊢
   simpa using this
 · rw [if_neg h1]
   by_cases h2:k=2
   · subst h2
     rw [if_pos (.inl rfl)]
     have:=rp_copy r.bg r.en r.cu aa ka pa ra an ac r.key.length kc pn pc rn rc u y ta tn tc w
     rw [hl] at this ⊢
     simpa using this
   · by_cases h3:k=3
     · subst h3
       rw [if_pos (.inr rfl)]
       by_cases h4:u≠0∨y<0∨(r.key.length:Int)≤y
       · have:=rp_pair_no r.bg r.en r.cu aa ka pa ra an ac r.key.length kc pn pc rn rc u y ta tn tc w h4
         by_cases h5:u=0
         · subst h5
           have h6:y<0∨(r.key.length:Int)≤y:=by simpa using h4
           simpa [h6] using this
         · simpa [h5] using this
       · simp only [not_or,Classical.not_not,ne_eq] at h4
         obtain ⟨rfl,h5,h6⟩:=h4
         obtain ⟨j,rfl⟩:∃ j:Nat,y=(j:Int):=⟨y.toNat,by omega⟩
         have hjl:j<r.key.length:=by omega
         obtain ⟨g,o,rfl,hk2⟩:=hk.resolve_left (fun e=>by rw [e] at hjl;simp at hjl)
         obtain ⟨sv,hc,hs⟩:=hk2 j hjl
         have hka:keyAt r.key (j:Int)=r.key[j]:=by simp [keyAt,hjl]
         have:=rp_pair_in r.bg r.en r.cu aa pa ra an ac r.key.length kc pn pc rn rc g o j sv r.key[j] tl ta tn tc w hjl hc hs ht
         rw [hka]
         have h7:¬ ((j:Int)<0∨(r.key.length:Int)≤(j:Int)):=by omega
         rw [if_neg (by simp),if_neg h7]
         simpa using this
     · rw [if_neg (by omega)]
       exact rp_other r.bg r.en r.cu aa ka pa ra an ac r.key.length kc pn pc rn rc k u y ta tn tc w h1 h2 h3
set_option maxHeartbeats 4000000 in
theorem rcheck_early (bg en:Bool) (cu:Int) (aa ka pa ra:Option Addr) (an ac kn kc pn pc rn rc:Nat) (w:World) (h:kn=0∨8<kn∨8<an∨8<pn∨16<rn) :
 Calls Tryz.prog 66 #[.agg #[.bool bg,.slice aa an ac,.slice ka kn kc,.slice pa pn pc,.bool en,.slice ra rn rc,.int .i64 cu]] w fun e w'=>e = .returned (.int .i64 (if kn=0∨8<kn then 70 else 72))∧Grown w w':=by
 by_cases h1:kn=0
 · rw [if_pos (.inl h1)]
   subst h1
   clear h
   go_enter Tryz.func66,Tryz.ntmps66
   go_wp2
   go_ret
   exact ⟨rfl,(Grown.refl _).alloc _⟩
 · have e1:decide ((kn:Int)<1)=false:=by simp;omega
   have e1':¬ (kn:Int)<1:=by omega
   by_cases h2:8<kn
   · rw [if_pos (.inr h2)]
     have h2':(8:Int)<(kn:Int):=by omega
     clear h
     go_enter Tryz.func66,Tryz.ntmps66
     go_wp2
     go_ret
     exact ⟨rfl,(Grown.refl _).alloc _⟩
   · rw [if_neg (by omega)]
     have d2':¬ (8:Int)<(kn:Int):=by omega
     by_cases h3:8<an
     · have h3':(8:Int)<(an:Int):=by omega
       clear h
       go_enter Tryz.func66,Tryz.ntmps66
       go_wp2
       go_ret
       exact ⟨rfl,(Grown.refl _).alloc _⟩
     · have d3':¬ (8:Int)<(an:Int):=by omega
       by_cases h4:8<pn
       · have h4':(8:Int)<(pn:Int):=by omega
         clear h
         go_enter Tryz.func66,Tryz.ntmps66
         go_wp2
         go_ret
         exact ⟨rfl,(Grown.refl _).alloc _⟩
       · have d4':¬ (8:Int)<(pn:Int):=by omega
         have h5':(16:Int)<(rn:Int):=by omega
         clear h
         go_enter Tryz.func66,Tryz.ntmps66
         go_wp2
         go_ret
         exact ⟨rfl,(Grown.refl _).alloc _⟩
set_option maxHeartbeats 4000000 in
theorem rcheck_sets (r:Rl) (aa ka pa ra:Option Addr) (an ac kn kc pn pc rn rc:Nat) (w:World) (h:RR w (.slice aa an ac) (.slice ka kn kc) (.slice pa pn pc) (.slice ra rn rc) r)
 (h1:kn≠0) (h2:kn≤8) (h3:an≤8) (h4:pn≤8) (h5:rn≤16) (hb:(r.ante.all okS && r.key.all okS && r.post.all okS)=false) (ha:an=r.ante.length) (hk:kn=r.key.length) (hp:pn=r.post.length) :
 Calls Tryz.prog 66 #[.agg #[.bool r.bg,.slice aa an ac,.slice ka kn kc,.slice pa pn pc,.bool r.en,.slice ra rn rc,.int .i64 r.cu]] w fun e w'=>e = .returned (.int .i64 71)∧Grown w w':=by
 have HA:Hid (∀ W,Grown w W→Calls Tryz.prog 89 #[.slice aa an ac] W fun e w'=>e = .returned (.bool (r.ante.all okS))∧Grown W w'):=fun W hW=>rsets_any _ _ W (h.a.grown hW) (by omega)
 have HK:Hid (∀ W,Grown w W→Calls Tryz.prog 89 #[.slice ka kn kc] W fun e w'=>e = .returned (.bool (r.key.all okS))∧Grown W w'):=fun W hW=>rsets_any _ _ W (h.k.grown hW) (by omega)
 have HP:Hid (∀ W,Grown w W→Calls Tryz.prog 89 #[.slice pa pn pc] W fun e w'=>e = .returned (.bool (r.post.all okS))∧Grown W w'):=fun W hW=>rsets_any _ _ W (h.p.grown hW) (by omega)
 generalize r.ante.all okS=b1 at HA hb
 generalize r.key.all okS=b2 at HK hb
 generalize r.post.all okS=b3 at HP hb
 obtain ⟨bg,en,cu,ante,key,post,res⟩:=r
 simp only
 clear ha hk hp h
 have e1:¬ (kn:Int)<1:=by omega
 have d2':¬ (8:Int)<(kn:Int):=by omega
 have d3':¬ (8:Int)<(an:Int):=by omega
 have d4':¬ (8:Int)<(pn:Int):=by omega
 have d5':¬ (16:Int)<(rn:Int):=by omega
 clear h2 h3 h4 h5
 cases b1 with
 | false=>
  go_enter Tryz.func66,Tryz.ntmps66
  go_wp2_with fail
  refine (HA.out _ ((Grown.refl _).alloc _)).mono ?_
  rintro e w1 ⟨rfl,hb1⟩
  go_wp2
  go_ret
  exact ⟨rfl,((Grown.refl _).alloc _).trans hb1⟩
 | true=>
  cases b2 with
  | false=>
   go_enter Tryz.func66,Tryz.ntmps66
   go_wp2_with fail
   refine (HA.out _ ((Grown.refl _).alloc _)).mono ?_
   rintro e w1 ⟨rfl,hb1⟩
   have hc2:=fun j v h=>hb1.cellv (a:=⟨w.heap.size,j,none⟩) (v:=v) h
   have g2:=hc2 2 (.slice ka kn kc) (by simp)
   go_wp2_with fail
   refine (HK.out _ (((Grown.refl _).alloc _).trans hb1)).mono ?_
   rintro e w2 ⟨rfl,hb2⟩
   go_wp2
   go_ret
   exact ⟨rfl,(((Grown.refl _).alloc _).trans hb1).trans hb2⟩
  | true=>
   obtain rfl:b3=false:=by simpa using hb
   go_enter Tryz.func66,Tryz.ntmps66
   go_wp2_with fail
   refine (HA.out _ ((Grown.refl _).alloc _)).mono ?_
   rintro e w1 ⟨rfl,hb1⟩
   have hc2:=fun j v h=>hb1.cellv (a:=⟨w.heap.size,j,none⟩) (v:=v) h
   have g2:=hc2 2 (.slice ka kn kc) (by simp)
   have g3:=hc2 3 (.slice pa pn pc) (by simp)
   go_wp2_with fail
   refine (HK.out _ (((Grown.refl _).alloc _).trans hb1)).mono ?_
   rintro e w2 ⟨rfl,hb2⟩
   have g3:=hb2.cellv g3
   go_wp2_with fail
   refine (HP.out _ ((((Grown.refl _).alloc _).trans hb1).trans hb2)).mono ?_
   rintro e w3 ⟨rfl,hb3⟩
   go_wp2
   go_ret
   exact ⟨rfl,((((Grown.refl _).alloc _).trans hb1).trans hb2).trans hb3⟩
set_option maxHeartbeats 4000000 in
theorem rcheck_tail (r:Rl) (aa ka pa ra:Option Addr) (an ac kn kc pn pc rn rc:Nat) (w:World) (h:RR w (.slice aa an ac) (.slice ka kn kc) (.slice pa pn pc) (.slice ra rn rc) r)
 (h1:kn≠0) (h2:kn≤8) (h3:an≤8) (h4:pn≤8) (h5:rn≤16) (hb1:r.ante.all okS=true) (hb2:r.key.all okS=true) (hb3:r.post.all okS=true) (ha:an=r.ante.length) (hk:kn=r.key.length) (hp:pn=r.post.length) (hr:rn=r.res.length) :
 Calls Tryz.prog 66 #[.agg #[.bool r.bg,.slice aa an ac,.slice ka kn kc,.slice pa pn pc,.bool r.en,.slice ra rn rc,.int .i64 r.cu]] w fun e w'=>e = .returned (.int .i64 (tailE r))∧Grown w w':=by
 have HA:Hid (∀ W,Grown w W→Calls Tryz.prog 89 #[.slice aa an ac] W fun e w'=>e = .returned (.bool true)∧Grown W w'):=fun W hW=>by have:=rsets_any _ _ W (h.a.grown hW) (by omega);rwa [hb1] at this
 have HK:Hid (∀ W,Grown w W→Calls Tryz.prog 89 #[.slice ka kn kc] W fun e w'=>e = .returned (.bool true)∧Grown W w'):=fun W hW=>by have:=rsets_any _ _ W (h.k.grown hW) (by omega);rwa [hb2] at this
 have HP:Hid (∀ W,Grown w W→Calls Tryz.prog 89 #[.slice pa pn pc] W fun e w'=>e = .returned (.bool true)∧Grown W w'):=fun W hW=>by have:=rsets_any _ _ W (h.p.grown hW) (by omega);rwa [hb3] at this
 have HQ:Hid (∀ W,Grown w W→∀ (p:Pc) (tv:Value),Rs W tv p.tl→Calls Tryz.prog 90 #[.agg #[.bool r.bg,.slice aa an ac,.slice ka kn kc,.slice pa pn pc,.bool r.en,.slice ra rn rc,.int .i64 r.cu],.agg #[.int .i64 p.k,.int .i64 p.u,.int .i64 p.y,tv]] W fun e w'=>e = .returned (.int .i64 (pcE r.key p))∧Grown W w'):=fun W hW p tv ht=>rpiece_any r _ _ _ _ p tv W (h.grown hW) ht
 have HR:Hid (rn=r.res.length∧(r.res=[]∨∃ g o,ra=some ⟨g,o,none⟩∧PRd w g o r.res)):=by
  obtain ⟨a',c',e',_,h'⟩:=h.r
  cases e'
  exact ⟨hr,h'⟩
 have HE:Hid (tailE r=if fstE r.key r.res≠0 then fstE r.key r.res else if r.cu<0∨(rn:Int)<r.cu then 76 else 0):=by unfold tailE;rw [hr];rfl
 generalize tailE r=E at HE
 obtain ⟨bg,en,cu,ante,key,post,res⟩:=r
 simp only at HE HR HQ ⊢
 clear ha hk hp h hb1 hb2 hb3 hr
 have e1:¬ (kn:Int)<1:=by omega
 have d2':¬ (8:Int)<(kn:Int):=by omega
 have d3':¬ (8:Int)<(an:Int):=by omega
 have d4':¬ (8:Int)<(pn:Int):=by omega
 have d5':¬ (16:Int)<(rn:Int):=by omega
 have HM:Hid (rn≤16):=h5
 clear h2 h3 h4 h5
 go_enter Tryz.func66,Tryz.ntmps66
 go_wp2_with fail
 refine (HA.out _ ((Grown.refl _).alloc _)).mono ?_
 rintro e w1 ⟨rfl,hb1⟩
 have hc2:=fun j v h=>hb1.cellv (a:=⟨w.heap.size,j,none⟩) (v:=v) h
 have g0:=hc2 0 (.bool bg) (by simp)
 have g1:=hc2 1 (.slice aa an ac) (by simp)
 have g2:=hc2 2 (.slice ka kn kc) (by simp)
 have g3:=hc2 3 (.slice pa pn pc) (by simp)
 have g4:=hc2 4 (.bool en) (by simp)
 have g5:=hc2 5 (.slice ra rn rc) (by simp)
 have g6:=hc2 6 (.int .i64 cu) (by simp)
 go_wp2_with fail
 refine (HK.out _ (((Grown.refl _).alloc _).trans hb1)).mono ?_
 rintro e w2 ⟨rfl,hb2⟩
 have k0:=hb2.cellv g0
 have k1:=hb2.cellv g1
 have k2:=hb2.cellv g2
 have g3:=hb2.cellv g3
 have k4:=hb2.cellv g4
 have k5:=hb2.cellv g5
 have k6:=hb2.cellv g6
 clear hc2 g0 g1 g2 g4 g5 g6
 go_wp2_with fail
 refine (HP.out _ ((((Grown.refl _).alloc _).trans hb1).trans hb2)).mono ?_
 rintro e w3 ⟨rfl,hb3⟩
 have l0:=hb3.cellv k0
 have l1:=hb3.cellv k1
 have l2:=hb3.cellv k2
 have l3:=hb3.cellv g3
 have l4:=hb3.cellv k4
 have l5:=hb3.cellv k5
 have l6:=hb3.cellv k6
 have hm:=mixed
 have hG3:=((((Grown.refl w).alloc (rcells bg (.slice aa an ac) (.slice ka kn kc) (.slice pa pn pc) en (.slice ra rn rc) cu)).trans hb1).trans hb2).trans hb3
 clear k0 k1 k2 k4 k5 k6 g3 hb1 hb2 hb3 HA HK HP
 go_wp2
 go_loopw [3] (fun vi wr=>∃ k:Nat,vi = .int .i64 k∧k≤rn∧Hid (fstE key (res.drop k)=fstE key res)∧Grown w3 wr) (fun vi _=>rn - (intOf vi).toNat)
 case atStart=>exact ⟨0,rfl,by omega,rfl,Grown.refl _⟩
 case round=>
  obtain ⟨k,rfl,hk,hF,hB⟩:=hrel
  have c5:=hB.cellv l5
  have c6:=hB.cellv l6
  have hkI:(0:Int)≤(k:Int):=by omega
  by_cases hlt:k<rn
  · have hlt':(k:Int)<(rn:Int):=by omega
    have hm16:=HM.out
    have hkI2:(k:Int)≤16:=by omega
    have hkl:k<res.length:=by have:=HR.out.1;omega
    obtain ⟨g,o,hra,hP⟩:=HR.out.2.resolve_left (fun e=>by rw [e] at hkl;simp at hkl)
    subst hra
    obtain ⟨tv,p0,p1,p2,p3,hRs⟩:=(hP k hkl).below (hG3.trans hB).below (Nat.le_refl _)
    have HC:Hid (∀ W,Grown wr W→Calls Tryz.prog 90 #[.agg #[.bool bg,.slice aa an ac,.slice ka kn kc,.slice pa pn pc,.bool en,.slice (some ⟨g,o,none⟩) rn rc,.int .i64 cu],.agg #[.int .i64 res[k].k,.int .i64 res[k].u,.int .i64 res[k].y,tv]] W fun e w'=>e = .returned (.int .i64 (pcE key res[k]))∧Grown W w'):=fun W hW=>HQ.out W ((hG3.trans hB).trans hW) res[k] tv (hRs.grown hW)
    have HS:Hid (fstE key (res.drop k)=if pcE key res[k]=0 then fstE key (res.drop (k+1)) else pcE key res[k]):=by show _=_;rw [drop_pc hkl];rfl
    obtain ⟨ta,tn,tc,rfl⟩:=hRs.sl
    generalize pcE key res[k]=q at HC HS
    generalize res[k].k=xk at HC p0
    generalize res[k].u=xu at HC p1
    generalize res[k].y=xy at HC p2
    have n0:∀ m os,(Go.Sort.grow (wr.drewN m) os).cell? ⟨w.heap.size,0,none⟩=some (.bool bg):=fun m os=>(hB.quiet m os).cellv l0
    have n1:∀ m os,(Go.Sort.grow (wr.drewN m) os).cell? ⟨w.heap.size,1,none⟩=some (.slice aa an ac):=fun m os=>(hB.quiet m os).cellv l1
    have n2:∀ m os,(Go.Sort.grow (wr.drewN m) os).cell? ⟨w.heap.size,2,none⟩=some (.slice ka kn kc):=fun m os=>(hB.quiet m os).cellv l2
    have n3:∀ m os,(Go.Sort.grow (wr.drewN m) os).cell? ⟨w.heap.size,3,none⟩=some (.slice pa pn pc):=fun m os=>(hB.quiet m os).cellv l3
    have n4:∀ m os,(Go.Sort.grow (wr.drewN m) os).cell? ⟨w.heap.size,4,none⟩=some (.bool en):=fun m os=>(hB.quiet m os).cellv l4
    have n5:∀ m os,(Go.Sort.grow (wr.drewN m) os).cell? ⟨w.heap.size,5,none⟩=some (.slice (some ⟨g,o,none⟩) rn rc):=fun m os=>(hB.quiet m os).cellv l5
    have n6:∀ m os,(Go.Sort.grow (wr.drewN m) os).cell? ⟨w.heap.size,6,none⟩=some (.int .i64 cu):=fun m os=>(hB.quiet m os).cellv l6
    have m0:∀ m os,(Go.Sort.grow (wr.drewN m) os).cell? ⟨g,o+k*4,none⟩=some (.int .i64 xk):=fun m os=>((Grown.refl _).quiet m os).cellv p0
    have m1:∀ m os,(Go.Sort.grow (wr.drewN m) os).cell? ⟨g,o+k*4+1,none⟩=some (.int .i64 xu):=fun m os=>((Grown.refl _).quiet m os).cellv p1
    have m2:∀ m os,(Go.Sort.grow (wr.drewN m) os).cell? ⟨g,o+k*4+2,none⟩=some (.int .i64 xy):=fun m os=>((Grown.refl _).quiet m os).cellv p2
    have m3:∀ m os,(Go.Sort.grow (wr.drewN m) os).cell? ⟨g,o+k*4+3,none⟩=some (.slice ta tn tc):=fun m os=>((Grown.refl _).quiet m os).cellv p3
    clear p0 p1 p2 p3 c6
    by_cases hq:q=0
    · subst hq
      have HF2:Hid (fstE key (res.drop (k+1))=fstE key res):=by
       have h:=HS.out
       rw [if_pos rfl,hF.out] at h
       exact h.symm
      clear hRs HS hF hP
      go_wp2
      refine wp_region_quiet_grown hm (by kernel_rfl) ?_
      repeat (go_big_quiet_step ((go_at_call 90;exact grown_of (HC.out _ ((Grown.refl _).quiet _ _)))))
      refine wpQuiet_nil ?_
      intro _ hw'
      obtain ⟨⟨nq,osq⟩,hw''⟩:=hw'
      subst hw''
      go_wp2
      exact ⟨⟨k+1,by go_num,by omega,HF2,hB.quiet _ _⟩,by simp [intOf];omega⟩
    · have hq':(q != 0)=true:=by simpa using hq
      have HF2:Hid (E=q):=by
       have h:=HS.out
       rw [if_neg hq,hF.out] at h
       have h2:=HE.out
       rw [if_pos (by rw [h];exact hq),h] at h2
       exact h2
      clear hRs HS hF hP
      go_wp2
      refine wp_region_quiet_grown hm (by kernel_rfl) ?_
      repeat (go_big_quiet_step ((go_at_call 90;exact grown_of (HC.out _ ((Grown.refl _).quiet _ _)))))
      refine wpQuiet_nil ?_
      intro _ hw'
      obtain ⟨⟨nq,osq⟩,hw''⟩:=hw'
      subst hw''
      go_wp2
      go_ret
      exact ⟨by rw [HF2.out];rfl,hG3.trans (hB.quiet _ _)⟩
  · have hge:¬ (k:Int)<(rn:Int):=by omega
    have HE2:Hid (E=if cu<0∨(rn:Int)<cu then 76 else 0):=by
     have h:=hF.out
     rw [List.drop_eq_nil_of_le (by have:=HR.out.1;omega)] at h
     have h2:=HE.out
     rw [if_neg (by rw [←h];simp [fstE])] at h2
     exact h2
    clear hF
    by_cases u1:cu<0
    · have HE3:Hid (E=76):=by have:=HE2.out;rwa [if_pos (.inl u1)] at this
      go_wp2
      go_ret
      exact ⟨by rw [HE3.out];rfl,hG3.trans hB⟩
    · have d6:decide (cu<0)=false:=by simpa using u1
      by_cases u2:(rn:Int)<cu
      · have HE3:Hid (E=76):=by have:=HE2.out;rwa [if_pos (.inr u2)] at this
        go_wp2
        go_ret
        exact ⟨by rw [HE3.out];rfl,hG3.trans hB⟩
      · have d7:decide ((rn:Int)<cu)=false:=by simpa using u2
        have HE3:Hid (E=0):=by have:=HE2.out;rwa [if_neg (by omega)] at this
        go_wp2
        go_ret
        exact ⟨by rw [HE3.out];rfl,hG3.trans hB⟩
theorem rcheck_any (r:Rl) (av kv pv rv:Value) (w:World) (h:RR w av kv pv rv r):Calls Tryz.prog 66 #[.agg #[.bool r.bg,av,kv,pv,.bool r.en,rv,.int .i64 r.cu]] w fun e w'=>e = .returned (.int .i64 (chk r))∧Grown w w':=by
 have hh:=h
 obtain ⟨⟨aa,ac,rfl,_⟩,⟨ka,kc,rfl,_⟩,⟨pa,pc,rfl,_⟩,⟨ra,rc,rfl,_⟩⟩:=h
 by_cases h1:r.key.length=0∨8<r.key.length∨8<r.ante.length∨8<r.post.length∨16<r.res.length
 · have:=rcheck_early r.bg r.en r.cu aa ka pa ra r.ante.length ac r.key.length kc r.post.length pc r.res.length rc w h1
   have e:chk r=if r.key.length=0∨8<r.key.length then 70 else 72:=by
    unfold chk
    by_cases h2:r.key.length=0∨8<r.key.length
    · rw [if_pos h2,if_pos h2]
    · rw [if_neg h2,if_neg h2,if_pos (by omega)]
   rw [e];exact this
 · by_cases hb:(r.ante.all okS && r.key.all okS && r.post.all okS)=false
   · have e:chk r=71:=by unfold chk;rw [if_neg (by omega),if_neg (by omega),if_pos hb]
     rw [e]
     exact rcheck_sets r aa ka pa ra _ ac _ kc _ pc _ rc w hh (by omega) (by omega) (by omega) (by omega) (by omega) hb rfl rfl rfl
   · have e:chk r=tailE r:=by unfold chk;rw [if_neg (by omega),if_neg (by omega),if_neg hb];rfl
     rw [e]
     simp only [Bool.not_eq_false,Bool.and_eq_true] at hb
     exact rcheck_tail r aa ka pa ra _ ac _ kc _ pc _ rc w hh (by omega) (by omega) (by omega) (by omega) (by omega) hb.1.1 hb.1.2 hb.2 rfl rfl rfl rfl
def FarI (w:World) (base:Nat) (v:Value) (l:List Int):Prop:=∃ a c,v = .slice a l.length c∧l.length≤c∧(l=[]∨∃ g o,a=some ⟨g,o,none⟩∧base≤g∧IRd w g o l)
theorem FarI.ir {w:World} {base:Nat} {v:Value} {l:List Int} (h:FarI w base v l):IR w v l:=by
 obtain ⟨a,c,rfl,hc,h⟩:=h
 refine ⟨a,c,rfl,hc,?_⟩
 rcases h with h | ⟨g,o,h1,_,h3⟩
 · exact .inl h
 · exact .inr ⟨g,o,h1,h3⟩
theorem FarI.le {w:World} {base base':Nat} {v:Value} {l:List Int} (h:FarI w base v l) (hb:base'≤base):FarI w base' v l:=by
 obtain ⟨a,c,rfl,hc,h⟩:=h
 refine ⟨a,c,rfl,hc,?_⟩
 rcases h with h | ⟨g,o,h1,h2,h3⟩
 · exact .inl h
 · exact .inr ⟨g,o,h1,Nat.le_trans hb h2,h3⟩
theorem FarI.below {w w':World} {base n:Nat} {v:Value} {l:List Int} (h:FarI w base v l) (hb:Below n w w') (hn:w.heap.size≤n):FarI w' base v l:=by
 obtain ⟨a,c,rfl,hc,h⟩:=h
 refine ⟨a,c,rfl,hc,?_⟩
 rcases h with h | ⟨g,o,h1,h2,h3⟩
 · exact .inl h
 · exact .inr ⟨g,o,h1,h2,h3.below hb hn⟩
theorem OwnI.far {w:World} {base:Nat} {v:Value} {l:List Int} (h:OwnI w base v l):FarI w base v l:=by
 rcases h.2 with ⟨rfl,h0⟩ | ⟨g,cap,cur,rfl,hb,_,hc,_⟩
 · have:l=[]:=List.eq_nil_of_length_eq_zero h0
   subst this
   exact ⟨none,0,rfl,Nat.le_refl _,.inl rfl⟩
 · refine ⟨_,cap,rfl,hc,.inr ⟨g,0,rfl,hb,fun j hj => ?_⟩⟩
   have:=World.ownsRow.cells h rfl j (.int .i64 l[j]) (by simp [ints,hj])
   rw [add_zero_at] at this
   rw [Nat.zero_add]
   exact this
theorem FarI.drop {w:World} {a:Option Addr} {n c cn base:Nat} {l:List Int} (h:FarI w base (.slice a n c) l) (hl:l.length=n) (hcn:cn≤n):FarI w base (.slice (a.map fun x=>x.add cn) (n - cn) (c - cn)) (l.drop cn):=by
 obtain ⟨a',c',e,hc,h⟩:=h
 injection e with e1 e2 e3
 subst e1 e3
 refine ⟨_,c - cn,by rw [List.length_drop,hl],by rw [List.length_drop];omega,?_⟩
 rcases h with rfl | ⟨g,o,rfl,hb,h⟩
 · exact .inl (by simp)
 · refine .inr ⟨g,o+cn,?_,hb,fun j hj => ?_⟩
   · simp only [Option.map_some,Option.some.injEq]
     unfold Addr.add
     split <;> simp_all
   · rw [List.length_drop] at hj
     have:=h (cn+j) (by omega)
     rw [List.getElem_drop,Nat.add_assoc]
     exact this
theorem FarI.take {w:World} {a:Option Addr} {n c cn base:Nat} {l:List Int} (h:FarI w base (.slice a n c) l) (hl:l.length=n) (hcn:cn≤n):FarI w base (.slice a cn cn) (l.take cn):=by
 obtain ⟨a',c',e,hc,h⟩:=h
 injection e with e1 e2 e3
 subst e1 e3
 have ht:(l.take cn).length=cn:=by rw [List.length_take];omega
 refine ⟨_,cn,by rw [ht],by omega,?_⟩
 rcases h with rfl | ⟨g,o,rfl,hb,h⟩
 · exact .inl (by simp)
 · refine .inr ⟨g,o,rfl,hb,fun j hj => ?_⟩
   rw [List.getElem_take]
   exact h j (by omega)
def PcW (W:World) (ka ua:Option Addr) (kn un:Nat) (tv:Value) (p:Pc) (q:Int):Prop:=
 (p.k=1∧p.u=q) ∨
 (p.k=2∧∃ j g o:Nat,p.y=j∧j<un∧ua=some ⟨g,o,none⟩∧W.cell? ⟨g,o+j,none⟩=some (.int .i64 q)) ∨
 (p.k=3∧∃ (j g o kg ko:Nat) (x pl:Int) (b1 b2:Bool) (sv:Value),p.y=j∧j<un∧ua=some ⟨g,o,none⟩∧W.cell? ⟨g,o+j,none⟩=some (.int .i64 x)∧j<kn∧ka=some ⟨kg,ko,none⟩∧W.cell? ⟨kg,ko+j,none⟩=some sv∧IsSl sv ∧
  (∀ W',Grown W W'→Calls Tryz.prog 81 #[sv,.int .i64 x] W' fun e w'=>e = .returned (.tuple #[.int .i64 pl,.bool b1])∧Grown W' w') ∧
  (∀ W',Grown W W'→Calls Tryz.prog 82 #[tv,.int .i64 pl] W' fun e w'=>e = .returned (.tuple #[.int .i64 q,.bool b2])∧Grown W' w'))
theorem nthV_some (x:Option Int):∃ b,nthV x = .tuple #[.int .i64 (x.getD 0),.bool b]:=by
 cases x with
 | none=>exact ⟨false,rfl⟩
 | some z=>exact ⟨true,rfl⟩
theorem pcW_of (p:Pc) (tv:Value) (ka ua:Option Addr) (kn un kc uc:Nat) (key:List (List (Int × Int))) (us:List Int) (W:World) (hk:SR W (.slice ka kn kc) key) (hu:IR W (.slice ua un uc) us) (ht:Rs W tv p.tl) (hp:pcE key p=0) (hl:key.length=us.length):PcW W ka ua kn un tv p (wrt key us p):=by
 obtain ⟨ka',kc',e,_,hk⟩:=hk
 cases e
 obtain ⟨ua',uc',e,_,hu⟩:=hu
 cases e
 rcases pc_ok hp with h1 | h1 | h1
 · refine .inl ⟨h1.1,?_⟩
   unfold wrt
   rw [if_neg (by omega),if_neg (by omega)]
 · obtain ⟨h1,h2,h3,h4,h5⟩:=h1
   obtain ⟨j,hj⟩:∃ j:Nat,p.y=(j:Int):=⟨p.y.toNat,by omega⟩
   obtain ⟨g,o,rfl,hu2⟩:=hu.resolve_left (fun e=>by rw [e] at hl;simp only [List.length_nil] at hl;omega)
   have hju:j<us.length:=by omega
   refine .inr (.inl ⟨h1,j,g,o,hj,hju,rfl,?_⟩)
   rw [hu2 j hju]
   unfold wrt
   rw [if_neg (by omega),if_pos h1,hj]
   simp [unitAt,hju]
 · obtain ⟨h1,h2,h3,h4,h5⟩:=h1
   obtain ⟨j,hj⟩:∃ j:Nat,p.y=(j:Int):=⟨p.y.toNat,by omega⟩
   obtain ⟨g,o,rfl,hu2⟩:=hu.resolve_left (fun e=>by rw [e] at hl;simp only [List.length_nil] at hl;omega)
   obtain ⟨kg,ko,rfl,hk2⟩:=hk.resolve_left (fun e=>by rw [e] at h4;simp only [List.length_nil] at h4;omega)
   have hju:j<us.length:=by omega
   have hjk:j<key.length:=by omega
   obtain ⟨sv,hck,hs⟩:=hk2 j hjk
   have e1:keyAt key (j:Int)=key[j]:=by simp [keyAt,hjk]
   have e2:unitAt us (j:Int)=us[j]:=by simp [unitAt,hju]
   have hw:wrt key us p=partU key[j] p.tl us[j]:=by
    unfold wrt
    rw [if_pos h1,hj,e1,e2]
   obtain ⟨b2,hb2⟩:=nthV_some (nthU p.tl (if hasB key[j] us[j] then placeU key[j] us[j] else 0))
   refine .inr (.inr ⟨h1,j,g,o,kg,ko,us[j],(if hasB key[j] us[j] then placeU key[j] us[j] else 0),hasB key[j] us[j],b2,sv,hj,hju,rfl,hu2 j hju,hjk,rfl,hck,hs.sl,fun W' hW => ?_,fun W' hW => ?_⟩)
   · exact rplace_any sv key[j] us[j] W' (hs.grown hW)
   · have:=rnth_any tv p.tl (if hasB key[j] us[j] then placeU key[j] us[j] else 0) W' (ht.grown hW)
     rw [hb2] at this
     rw [hw]
     exact this
theorem add_at (g o n:Nat):(⟨g,o,none⟩:Addr).add n=⟨g,o+n,none⟩:=by
 unfold Addr.add
 split <;> simp_all
def SomeS (v:Value):Prop:=∃ g o n c,v = .slice (some ⟨g,o,none⟩) n c
set_option maxHeartbeats 8000000 in
theorem rlaid2_walk (r:Rl) (av kv pv rv uv:Value) (us:List Int) (w:World) (h:RR w av kv pv rv r) (hu:IR w uv us) (hb:layB r us=true) :
 Calls Tryz.prog 56 #[.agg #[.bool r.bg,av,kv,pv,.bool r.en,rv,.int .i64 r.cu],uv] w fun e w'=>∃ v1 v2,e = .returned (.tuple #[v1,v2])∧FarI w' w.heap.size v1 ((outs r us).take r.cu.toNat)∧FarI w' w.heap.size v2 ((outs r us).drop r.cu.toNat)∧Below w.heap.size w w'∧SomeS v1∧SomeS v2:=by
 simp only [layB,Bool.and_eq_true,decide_eq_true_eq] at hb
 have hok:=chk_ok hb.1
 have hsl:=st_len hb.2
 obtain ⟨aa,an,ac,rfl⟩:=h.a.sl
 obtain ⟨ka,kn,kc,rfl⟩:=h.k.sl
 obtain ⟨pa,pn,pc,rfl⟩:=h.p.sl
 obtain ⟨ua,un,uc,rfl⟩:=hu.sl
 obtain ⟨ra,rc,rfl,_,_⟩:=h.r
 have HW:Hid (∀ W,Below w.heap.size w W→∀ p∈r.res,∀ tv,Rs W tv p.tl→PcW W ka ua kn un tv p (wrt r.key us p)):=fun W hW p hp tv ht=>
  pcW_of p tv ka ua kn un kc uc r.key us W (h.k.below hW (Nat.le_refl _)) (hu.below hW (Nat.le_refl _)) ht (hok.pc p hp) hsl
 have HR:Hid (∀ W,Below w.heap.size w W→PR W (.slice ra r.res.length rc) r.res):=fun W hW=>h.r.below hW (Nat.le_refl _)
 obtain ⟨rn,hrn⟩:∃ rn,r.res.length=rn:=⟨_,rfl⟩
 rw [hrn] at HR ⊢
 have HN:Hid (r.res.length=rn):=hrn
 have hr16:rn≤16:=by rw [←hrn];exact hok.r16
 obtain ⟨cn,hcn⟩:∃ cn:Nat,r.cu=(cn:Int):=⟨r.cu.toNat,by have:=hok.c0;omega⟩
 have hcr:cn≤rn:=by have:=hok.c1;omega
 rw [hcn]
 have HO:Hid (∀ k (hk:k<r.res.length),(outs r us).take (k+1)=(outs r us).take k++[wrt r.key us r.res[k]]):=fun k hk=>outs_succ hk
 have HL:Hid ((outs r us).length=rn):=by show _=_;rw [←hrn];simp [outs]
 rw [show ((cn:Int)).toNat=cn by omega]
 generalize outs r us=O at HO HL
 generalize hwk:wrt r.key us=wk at HO HW
 obtain ⟨bg,en,cu,ante,key,post,res⟩:=r
 simp only at HR HW HO HN ⊢
 clear h hu hok hb hrn hcn hwk hsl
 have hm:=mixed
 go_enter Tryz.func56,Tryz.ntmps56
 go_wp2
 obtain ⟨w2,hw2⟩:∃ w2:World,w2=w.alloc (rcells bg (.slice aa an ac) (.slice ka kn kc) (.slice pa pn pc) en (.slice ra rn rc) (cn:Int)):=⟨_,rfl⟩
 have d2:w2.cell? ⟨w.heap.size,2,none⟩=some (.slice ka kn kc):=by rw [hw2];simp [rcells]
 have d5:w2.cell? ⟨w.heap.size,5,none⟩=some (.slice ra rn rc):=by rw [hw2];simp [rcells]
 have d6:w2.cell? ⟨w.heap.size,6,none⟩=some (.int .i64 (cn:Int)):=by rw [hw2];simp [rcells]
 have HG2:Hid (Below w.heap.size w w2):=by show Below _ _ _;rw [hw2];exact ((Grown.refl w).alloc _).below
 have HZ:Hid (w2.heap.size=w.heap.size+1):=by show _=_;rw [hw2];simp
 rw [show w.alloc (.cells #[.bool bg,.slice aa an ac,.slice ka kn kc,.slice pa pn pc,.bool en,.slice ra rn rc,.int .i64 (cn:Int)] 53)=w2 from hw2.symm]
 have HB0:Hid (OwnI (w2.alloc (.cells #[] 3)) w2.heap.size (.slice (some ⟨w.heap.size+1,0,none⟩) 0 0) []∧Below w2.heap.size w2 (w2.alloc (.cells #[] 3))):=by
  refine ⟨?_,((Grown.refl w2).alloc _).below⟩
  exact NewI.own ⟨w.heap.size+1,rfl,by rw [HZ.out];exact Nat.le_refl _,by rw [←HZ.out];exact Array.getElem?_push_size⟩ (Nat.zero_le _)
 clear hw2
 go_loopw [6,7] (fun sa vi wr=>∃ (va:Value) (kk:Nat),va=sa∧vi = .int .i64 kk∧kk≤rn∧Hid (OwnI wr w2.heap.size va (O.take kk)∧Below w2.heap.size w2 wr∧(kk=0→SomeS va))) (fun _ vi _=>rn - (intOf vi).toNat)
 case atStart=>exact ⟨_,0,rfl,rfl,Nat.zero_le _,HB0.out.1,HB0.out.2,fun _=>⟨_,_,_,_,rfl⟩⟩
 case round=>
  obtain ⟨va,k,rfl,rfl,hk,HG⟩:=hrel
  have hkI:(0:Int)≤(k:Int):=by omega
  have hkI2:(k:Int)≤16:=by omega
  have e2:=cell_below d2 HG.out.2.1 (Nat.le_refl _)
  have e5:=cell_below d5 HG.out.2.1 (Nat.le_refl _)
  have e6:=cell_below d6 HG.out.2.1 (Nat.le_refl _)
  by_cases hlt:k<rn
  · have hlt':(k:Int)<(rn:Int):=by omega
    have hkl:k<res.length:=by rw [HN.out];exact hlt
    have HBw:Below w.heap.size w wr:=HG2.out.trans (HG.out.2.1.mono HG2.out.size)
    obtain ⟨ra',rc',hre,_,hP⟩:=HR.out wr HBw
    obtain ⟨g,o,hra,hP2⟩:=hP.resolve_left (fun e=>by rw [e] at hkl;simp at hkl)
    cases hre
    subst hra
    obtain ⟨tv,p0,p1,p2,p3,hRs⟩:=hP2 k hkl
    have hPW:=HW.out wr HBw res[k] (List.getElem_mem hkl) tv hRs
    have HOO:Hid (O.take (k+1)=O.take k++[wk res[k]]):=HO.out k hkl
    obtain ⟨ta,tn,tc,rfl⟩:=hRs.sl
    generalize wk res[k]=q at hPW HOO
    unfold PcW at hPW
    generalize res[k].k=xk at hPW p0
    generalize res[k].u=xu at hPW p1
    generalize res[k].y=xy at hPW p2
    have hOl:(O.take k).length+1≤8796093022208:=by rw [List.length_take];omega
    clear hRs hP hP2 HBw
    rcases hPW with ⟨rfl,rfl⟩ | ⟨rfl,j,gu,ou,rfl,hju,rfl,hcu⟩ | ⟨rfl,j,gu,ou,kg,ko,x,pl,b1,b2,sv,rfl,hju,rfl,hcu,hjk,rfl,hck,hsv,hc1,hc2⟩
    · as_aux_lemma=>
       have HP2:Hid (∀ oa ob,OwnI ((wr.alloc oa).alloc ob) w2.heap.size va (O.take k)∧w2.heap.size≤((wr.alloc oa).alloc ob).heap.size∧Below w2.heap.size w2 ((wr.alloc oa).alloc ob)):=fun oa ob=>by
        have hb5:Below wr.heap.size wr ((wr.alloc oa).alloc ob):=(((Grown.refl _).alloc oa).alloc ob).below
        exact ⟨HG.out.1.below hb5 (Nat.le_refl _),Nat.le_trans HG.out.2.1.size hb5.size,HG.out.2.1.trans (hb5.mono HG.out.2.1.size)⟩
       go_wp2_with (at_builtin;go_must (refine push_I rfl _ _ 38 rfl Tryz.underlying38 w2.heap.size _ (O.take k) rfl (HP2.out _ _).1 _ _ xu rfl (by simp) hOl (HP2.out _ _).2.1 ?_;intro v3 w3 hO3 hB3))
       go_roundw
       case rel=>
        refine ⟨_,k+1,rfl,by simp,hlt,?_,(HP2.out _ _).2.2.trans hB3,fun h=>by omega⟩
        rw [HOO.out]
        exact hO3
       case measure=>simp [intOf];omega
    · as_aux_lemma=>
       have HP2:Hid (∀ oa ob,OwnI ((wr.alloc oa).alloc ob) w2.heap.size va (O.take k)∧w2.heap.size≤((wr.alloc oa).alloc ob).heap.size∧Below w2.heap.size w2 ((wr.alloc oa).alloc ob)):=fun oa ob=>by
        have hb5:Below wr.heap.size wr ((wr.alloc oa).alloc ob):=(((Grown.refl _).alloc oa).alloc ob).below
        exact ⟨HG.out.1.below hb5 (Nat.le_refl _),Nat.le_trans HG.out.2.1.size hb5.size,HG.out.2.1.trans (hb5.mono HG.out.2.1.size)⟩
       have hj1:(j:Int)<(un:Int):=by omega
       have hj0:(0:Int)≤(j:Int):=by omega
       have du:=fun o=>cell_up hcu o
       go_wp2_with (at_builtin;go_must (refine push_I rfl _ _ 38 rfl Tryz.underlying38 w2.heap.size _ (O.take k) rfl (HP2.out _ _).1 _ _ q rfl (by simp) hOl (HP2.out _ _).2.1 ?_;intro v3 w3 hO3 hB3))
       go_roundw
       case rel=>
        refine ⟨_,k+1,rfl,by simp,hlt,?_,(HP2.out _ _).2.2.trans hB3,fun h=>by omega⟩
        rw [HOO.out]
        exact hO3
       case measure=>simp [intOf];omega
    · as_aux_lemma=>
       have hj1:(j:Int)<(un:Int):=by omega
       have hj2:(j:Int)<(kn:Int):=by omega
       have hj0:(0:Int)≤(j:Int):=by omega
       have du:=fun o=>cell_up hcu o
       have dk:=fun o=>cell_up hck o
       have e2':=fun o=>cell_up e2 o
       obtain ⟨sa,sn,sc,rfl⟩:=hsv
       have HC1:Hid (∀ W',Grown wr W'→Calls Tryz.prog 81 #[.slice sa sn sc,.int .i64 x] W' fun e w'=>e = .returned (.tuple #[.int .i64 pl,.bool b1])∧Grown W' w'):=hc1
       have HC2:Hid (∀ W',Grown wr W'→Calls Tryz.prog 82 #[.slice ta tn tc,.int .i64 pl] W' fun e w'=>e = .returned (.tuple #[.int .i64 q,.bool b2])∧Grown W' w'):=hc2
       clear hc1 hc2
       go_wp2_with fail
       refine (HC1.out _ ((Grown.refl _).alloc _)).mono ?_
       rintro e w4 ⟨rfl,hb4⟩
       have f3:=hb4.cellv (a:=⟨wr.heap.size,3,none⟩) (v := .slice ta tn tc) (by simp)
       have HB4:=((Grown.refl wr).alloc (.cells #[.int .i64 3,.int .i64 xu,.int .i64 (j:Int),.slice ta tn tc] 65)).trans hb4
       clear hb4
       go_wp2_with fail
       refine (HC2.out _ HB4).mono ?_
       rintro e w5 ⟨rfl,hb5⟩
       have HB5:=HB4.trans hb5
       have HP2:Hid (∀ ob,OwnI (w5.alloc ob) w2.heap.size va (O.take k)∧w2.heap.size≤(w5.alloc ob).heap.size∧Below w2.heap.size w2 (w5.alloc ob)):=fun ob=>by
        have hb6:Below wr.heap.size wr (w5.alloc ob):=(HB5.alloc ob).below
        exact ⟨HG.out.1.below hb6 (Nat.le_refl _),Nat.le_trans HG.out.2.1.size hb6.size,HG.out.2.1.trans (hb6.mono HG.out.2.1.size)⟩
       clear hb5 HB4 HB5
       go_wp2_with (at_builtin;go_must (refine push_I rfl _ _ 38 rfl Tryz.underlying38 w2.heap.size _ (O.take k) rfl (HP2.out _).1 _ _ q rfl (by simp) hOl (HP2.out _).2.1 ?_;intro v3 w3 hO3 hB3))
       go_roundw
       case rel=>
        refine ⟨_,k+1,rfl,by simp,hlt,?_,(HP2.out _).2.2.trans hB3,fun h=>by omega⟩
        rw [HOO.out]
        exact hO3
       case measure=>simp [intOf];omega
  · have hge:¬ (k:Int)<(rn:Int):=by omega
    obtain rfl:k=rn:=by omega
    have HOw:Hid (OwnI wr w2.heap.size va O):=by have:=HG.out.1;rwa [List.take_of_length_le (by rw [HL.out];omega)] at this
    have HBw:Hid (Below w2.heap.size w2 wr):=HG.out.2.1
    have HF:Hid (FarI wr w2.heap.size va O):=OwnI.far HOw.out
    have hSS:=HG.out.2.2
    obtain ⟨sa,sc,rfl,hsc0,hfr⟩:=HF.out
    have hsm:∃ g o,sa=some ⟨g,o,none⟩:=by
     by_cases h0:k=0
     · obtain ⟨g,o,n,c,e⟩:=hSS h0
       injection e with e
       exact ⟨g,o,e⟩
     · rcases hfr with h1 | ⟨g,o,h1,_⟩
       · have:=HL.out;rw [h1] at this;simp at this;omega
       · exact ⟨g,o,h1⟩
    clear hSS hfr
    obtain ⟨sg9,so9,hsa9⟩:=hsm
    subst hsa9
    rw [HL.out] at HOw HF hsc0 ⊢
    have hOl:O.length=k:=HL.out
    have HWs:Hid (w.heap.size≤w2.heap.size):=HG2.out.size
    have HBq:Hid (∀ m os,Below w.heap.size w (Go.Sort.grow (wr.drewN m) os)):=fun m os=>by
     have:=((Grown.refl wr).quiet m os).below
     exact HG2.out.trans ((HBw.out.trans (this.mono HBw.out.size)).mono HG2.out.size)
    have HFq:Hid (∀ m os,FarI (Go.Sort.grow (wr.drewN m) os) w.heap.size (.slice (some ⟨sg9,so9,none⟩) k sc) O):=fun m os=>(HF.out.le HWs.out).below ((Grown.refl wr).quiet m os).below (Nat.le_refl _)
    have f6:∀ m os,(Go.Sort.grow (wr.drewN m) os).cell? ⟨w.heap.size,6,none⟩=some (.int .i64 (cn:Int)):=fun m os=>((Grown.refl _).quiet m os).cellv e6
    have hckI:(cn:Int)≤(k:Int):=by omega
    have hcnI:(0:Int)≤(cn:Int):=by omega
    have hscI:(k:Int)≤(sc:Int):=by omega
    have hscI2:(cn:Int)≤(sc:Int):=by omega
    clear HG HW HO HR HOw HB0
    by_cases hsc:cn=sc
    · subst hsc
      have HNil:Hid (∀ (m:Nat) (os:Array Obj),FarI (Go.Sort.grow (wr.drewN m) os) w.heap.size (.slice (some ⟨sg9,so9,none⟩) 0 0) (O.drop cn)):=fun m os=>by
       rw [List.drop_eq_nil_of_le (by omega)]
       exact ⟨_,0,rfl,Nat.le_refl _,.inl rfl⟩
      go_wp2
      refine wp_region_quiet_grown hm (by kernel_rfl) ?_
      repeat (go_big_quiet_step (fail))
      refine wpQuiet_nil ?_
      intro _ hw'
      obtain ⟨⟨nq,osq⟩,hw''⟩:=hw'
      subst hw''
      go_wp2
      go_ret2
      exact ⟨_,_,rfl,(HFq.out _ _).take hOl hcr,HNil.out _ _,HBq.out _ _,⟨_,_,_,_,rfl⟩,⟨_,_,_,_,rfl⟩⟩
    · have hscE:((cn:Int) == (sc:Int))=false:=by simp;omega
      go_wp2
      refine wp_region_quiet_grown hm (by kernel_rfl) ?_
      repeat (go_big_quiet_step (fail))
      refine wpQuiet_nil ?_
      intro _ hw'
      obtain ⟨⟨nq,osq⟩,hw''⟩:=hw'
      subst hw''
      go_wp2
      go_ret2
      exact ⟨_,_,rfl,(HFq.out _ _).take hOl hcr,by have:=(HFq.out nq osq).drop hOl hcr;rw [Option.map_some,add_at] at this;exact this,HBq.out _ _,⟨_,_,_,_,rfl⟩,⟨_,_,_,_,rfl⟩⟩
def WKB (w:World) (wb:Nat) (rv ov mv dv uv:Value) (room:Nat):Prop:=w.heap[wb]? = some (.cells #[rv,ov,mv,dv,uv,.int .i64 room] 77 (0,0))
def nowA (A:Option Addr) (c room:Nat):Option Addr:=if c=room then A else A.map fun x=>x.add room
theorem ir_now {w:World} {A:Option Addr} {n c room:Nat} {l:List Int} (h:IR w (.slice A n c) l) (hl:l.length=n) (hc:n≤c) (hr:room≤n):IR w (.slice (nowA A c room) (n - room) (c - room)) (l.drop room):=by
 unfold nowA
 split
 · rename_i h1
   have:l.drop room=[]:=List.drop_eq_nil_of_le (by omega)
   rw [this]
   exact ⟨A,c - room,by rw [show n - room=0 by omega];rfl,Nat.zero_le _,.inl rfl⟩
 · exact h.drop hl hr
set_option maxHeartbeats 4000000 in
theorem now_any {w:World} {wb:Nat} {rv ov mv dv:Value} {A:Option Addr} {n c room:Nat} (h:WKB w wb rv ov mv dv (.slice A n c) room) (hr:room≤n) (hc:n≤c) (hA:A=none→c=0) :
 Calls Tryz.prog 48 #[.pointer (some ⟨wb,4,none⟩)] w fun e w'=>w'=w.drew∧e = .returned (.slice (nowA A c room) (n - room) (c - room)):=by
 have e4:w.cell? ⟨wb,4,none⟩=some (.slice A n c):=by rw [cell_of h];rfl
 have e5:w.cell? ⟨wb,5,none⟩=some (.int .i64 room):=by rw [cell_of h];rfl
 have r0:(0:Int)≤(room:Int):=by omega
 have r1:(room:Int)≤(n:Int):=by omega
 have r2:(n:Int)≤(c:Int):=by omega
 cases A with
 | none=>
  obtain rfl:=hA rfl
  obtain rfl:n=0:=by omega
  obtain rfl:room=0:=by omega
  go_enter Tryz.func48,Tryz.ntmps48
  go_wp2
  go_region
  go_wp2
  go_ret
  all_goals simp [nowA]
 | some x=>
  go_enter Tryz.func48,Tryz.ntmps48
  go_wp2
  go_region
  go_wp2
  · go_ret
    all_goals simp [nowA]
  · go_ret
    all_goals simp [nowA,h]
theorem IR.fr {w w':World} {v:Value} {l:List Int} {B:Nat→Prop} (h:IR w v l) (hf:Fr w w' B) (hB:∀ b,v.ownBlock=some b→¬ B b):IR w' v l:=by
 obtain ⟨A,c,rfl,hc,hr⟩:=h
 refine ⟨A,c,rfl,hc,?_⟩
 rcases hr with hr | ⟨g,o,rfl,hd⟩
 · exact .inl hr
 · by_cases h0:l=[]
   · exact .inl h0
   · refine .inr ⟨g,o,rfl,fun j hj => ?_⟩
     have h1:=hd j hj
     have hg:g<w.heap.size:=by
      have:=h1
      unfold World.cell? at this
      by_cases hg:g<w.heap.size
      · exact hg
      · simp [Array.getElem?_eq_none (by omega:w.heap.size≤g)] at this
     have:=hf.block g hg (hB g rfl)
     rw [←h1]
     unfold World.cell?
     simp only [this]
theorem copy_now {w:World} {base:Nat} {A:Option Addr} {n c room:Nat} {uu bl:List Int} {bv:Value} (hO:OwnI w base (.slice A n c) uu) (hb:IR w bv bl) (hl:uu.length=n) (hn:room+bl.length≤n) (hc:n≤c) :
 ∃ w2,(Builtin.copy_ #[38,38] 3 #[.slice (nowA A c room) (n - room) (c - room),bv]).run Tryz.prog w = .ok (.int .i64 bl.length) w2∧OwnI w2 base (.slice A n c) (uu.take room++bl++uu.drop (room+bl.length))∧Fr w w2 fun k=>(Value.slice A n c).ownBlock=some k:=by
 obtain ⟨sA,sc,rfl,_,hr⟩:=hb
 by_cases h0:bl=[]
 · subst h0
   refine ⟨w,run_copy_none (P:=Tryz.prog) w 38 38 3 3 _ _ _ _ 0 sc Tryz.underlying38 size3 (by simp),?_,Fr.refl _ _⟩
   simpa using hO
 · obtain ⟨gs,os,rfl,hcell⟩:=hr.resolve_left h0
   have hlen:0<bl.length:=List.length_pos_iff.2 h0
   rcases hO.2 with ⟨_,h2⟩ | ⟨g,cap,cur,hv,hbg,hg,h1,h2,h3,h4⟩
   · omega
   · injection hv with e1 e2 e3
     subst e1 e3
     rw [hl] at h1 h4
     have hna:nowA (some ⟨g,0,none⟩) c room=some ⟨g,room,none⟩:=by
      unfold nowA
      rw [if_neg (by omega)]
      simp only [Option.map_some,Addr.add]
      split <;> simp_all
     have hrun:=run_copy_row (P:=Tryz.prog) w 38 38 3 3 g room (n - room) (c - room) ⟨gs,os,none⟩ bl.length sc cur 3 (ints bl) Tryz.underlying38 size3 hg (by rw [ints_length];exact (Nat.min_eq_left (by omega)).symm) (fun j u hj=>by
      simp only [ints,List.getElem?_map,Option.map_eq_some_iff] at hj
      obtain ⟨x,hx,rfl⟩:=hj
      obtain ⟨hj1,hj2⟩:=List.getElem?_eq_some_iff.1 hx
      have:=hcell j hj1
      rw [hj2] at this
      unfold Addr.add
      by_cases h:j=0
      · subst h;simpa using this
      · simpa [h] using this) (by rw [ints_length];omega) (ints_one _)
     rw [hna]
     rw [ints_length] at hrun
     refine ⟨_,hrun,?_,?_⟩
     · have hlen2:(uu.take room++bl++uu.drop (room+bl.length)).length=n:=by simp;omega
       unfold OwnI
       rw [hlen2]
       refine ⟨by rw [ints_length,hlen2];omega,.inr ⟨g,c,_,rfl,hbg,setRow_heap w g _ _ 3 _ hg,hc,h2,?_,?_⟩⟩
       · have:cur.toList.length=c:=by simp;omega
         simp [ints_length];omega
       · have hcl:cur.toList.length=c:=by simp;omega
         rw [Nat.mul_one] at h4
         rw [←hl] at hn hc
         simp only [Nat.mul_one]
         have e1:cur.toList.take room=ints (uu.take room):=by
          rw [show ints (uu.take room)=(ints uu).take room by simp [ints,List.map_take],←h4,List.take_take,Nat.min_eq_left (by omega)]
         have e2:(cur.toList.drop (room+bl.length)).take (n - (room+bl.length))=ints (uu.drop (room+bl.length)):=by
          rw [show ints (uu.drop (room+bl.length))=(ints uu).drop (room+bl.length) by simp [ints,List.map_drop],←h4,List.drop_take]
         have l1:(ints (uu.take room)).length=room:=by rw [ints_length];simp;omega
         have l2:(ints bl).length=bl.length:=ints_length _
         rw [e1,ints_append,ints_append,←e2,List.append_assoc,List.append_assoc,List.take_append,List.take_append,l1,l2,List.take_of_length_le (by omega),List.take_of_length_le (l:=ints bl) (by omega),show n - room - bl.length=n - (room+bl.length) by omega]
     · exact ⟨rfl,rfl,rfl,by simp [World.setRow],fun k _ hk=>setRow_other w g k _ fun e=>hk (by rw [e];rfl)⟩
theorem WKB.room {w:World} {wb:Nat} {rv ov mv dv uv:Value} {room:Nat} (h:WKB w wb rv ov mv dv uv room) (z:Int) (r:Nat) (hz:z=r):WKB (w.setCell ⟨wb,5,none⟩ (.int .i64 z)) wb rv ov mv dv uv r:=by
 subst hz;unfold WKB;rw [set_heap h];rfl
theorem WKB.units {w:World} {wb:Nat} {rv ov mv dv uv:Value} {room:Nat} (h:WKB w wb rv ov mv dv uv room) (u:Value):WKB (w.setCell ⟨wb,4,none⟩ u) wb rv ov mv dv u room:=by
 unfold WKB;rw [set_heap h];rfl
theorem WKB.fr {w w':World} {B:Nat→Prop} {wb:Nat} {rv ov mv dv uv:Value} {room:Nat} (h:WKB w wb rv ov mv dv uv room) (hf:Fr w w' B) (hB:¬ B wb):WKB w' wb rv ov mv dv uv room:=(hf.block wb (blk_lt h) hB).trans h
theorem WKB.ne {w:World} {wb base:Nat} {rv ov mv dv uv v:Value} {room:Nat} {l:List Int} (h:WKB w wb rv ov mv dv uv room) (hO:OwnI w base v l) {b:Nat} (hb:v.ownBlock=some b):b≠wb:=fun e=>by
 obtain ⟨cur,hc⟩:=own_at hO hb
 subst e
 rw [h] at hc
 injection hc with hc
 injection hc with _ h2 _
 exact absurd h2 (by decide)
theorem make_big (n:Nat) (hn:n≤1000000000):∀ W:World,(Instr.makeSlice 38 (.int .i64 n) (.int .i64 n)).run Tryz.prog W = .ok (.slice (some ⟨W.heap.size,0,none⟩) n n) (W.alloc (.cells (ints (List.replicate n 0)).toArray 3)):=by
 obtain ⟨i0,hi,hz0,hz1,hz2⟩:=info_parts iinfo3
 intro W
 have h:=run_make (P:=Tryz.prog) W 38 3 i0 (.int .i64 0) Tryz.underlying38 hi hz0 .i64 .i64 (n:Int) (n:Int) (by omega) (Int.le_refl _) (by rw [hz2];omega) (by omega)
 have hz:madeCells (Value.int .i64 0).cells n=(ints (List.replicate n 0)).toArray:=by
  apply Array.ext'
  apply List.ext_getElem
  · simp [size_madeCells,ints]
  · intro i h1 h2
    simp [madeCells,ints,Value.cells,Nat.mod_one]
 rw [h,show (n:Int).toNat=n by omega,hz1,Nat.mul_one,hz]
theorem ir_zeros {w:World} {g n:Nat} (h:w.heap[g]? = some (.cells (ints (List.replicate n 0)).toArray 3 (0,0))):IR w (.slice (some ⟨g,0,none⟩) n n) (List.replicate n 0):=by
 refine ⟨_,n,by rw [List.length_replicate],by simp,.inr ⟨g,0,rfl,fun j hj => ?_⟩⟩
 rw [cell_of h]
 simp at hj
 simp [ints,hj]
structure SwQ (w w':World) (base wb:Nat) (rv ov mv dv uv:Value) (n R:Nat) (uu bl:List Int):Prop where
 ex:∃ A c m room uu',WKB w' wb rv ov mv dv (.slice A m c) room∧OwnI w' base (.slice A m c) uu'∧uu'.length=m∧room≤m∧uu'.drop room=bl++uu.drop R∧(m=n∨R<bl.length∧m=bl.length+n+(n - R))∧(A.map (·.block)=uv.ownBlock∨∃ g,A=some ⟨g,0,none⟩∧w.heap.size≤g)
 fr:Fr w w' fun k=>k=wb∨uv.ownBlock=some k
set_option maxHeartbeats 8000000 in
theorem swap_any {w:World} {wb base:Nat} {rv ov mv dv bv:Value} {A:Option Addr} {n c room took:Nat} {uu bl:List Int} (h:WKB w wb rv ov mv dv (.slice A n c) room) (hO:OwnI w base (.slice A n c) uu) (hl:uu.length=n) (hr:room+took≤n) (hn:n≤100000000) (hb:IR w bv bl) (hbw:bv.ownBlock≠some wb) (hbl:bl.length≤1000000) (hbase:base≤w.heap.size) :
 Calls Tryz.prog 75 #[.pointer (some ⟨wb,4,none⟩),.int .i64 took,bv] w fun e w'=>e = .returned (.tuple #[])∧SwQ w w' base wb rv ov mv dv (.slice A n c) n (room+took) uu bl:=by
 have HW:Hid (WKB w wb rv ov mv dv (.slice A n c) room):=h
 have HO:Hid (OwnI w base (.slice A n c) uu):=hO
 have HB:Hid (IR w bv bl):=hb
 have HL:Hid (uu.length=n):=hl
 obtain ⟨bA,bc,hbv,_,_⟩:=hb
 obtain ⟨k,hk⟩:∃ k,bl.length=k:=⟨_,rfl⟩
 have HK:Hid (bl.length=k):=hk
 rw [hk] at hbv hbl
 subst hbv
 have e5:w.cell? ⟨wb,5,none⟩=some (.int .i64 room):=by rw [cell_of h];rfl
 have f5:w.frozen? ⟨wb,5,none⟩=false:=free_of h
 have r0:(0:Int)≤(room:Int):=by omega
 have r1:(room:Int)+(took:Int)≤(n:Int):=by omega
 have r2:(n:Int)≤100000000:=by omega
 have r3:(0:Int)≤(took:Int):=by omega
 have r4:(k:Int)≤1000000:=by omega
 have r5:(0:Int)≤(k:Int):=by omega
 have hnc:n≤c∧(A=none→c=0):=by
  rcases hO.2 with ⟨e,_⟩ | ⟨g,cap,cur,e,_,_,h1,_⟩
  · injection e with e1 e2 e3
    exact ⟨by omega,fun _=>e3⟩
  · injection e with e1 e2 e3
    rw [hl] at h1
    exact ⟨by omega,fun e=>by rw [e] at e1;cases e1⟩
 have HNC:Hid (n≤c∧(A=none→c=0)):=hnc
 by_cases hR:room+took<k
 · have hd:decide ((room:Int)+(took:Int)<(k:Int))=true:=decide_eq_true (by omega)
   have H1:=h.room ((room:Int)+(took:Int)) (room+took) (by omega)
   have e51:(w.setCell ⟨wb,5,none⟩ (.int .i64 ((room:Int)+(took:Int)))).cell? ⟨wb,5,none⟩=some (.int .i64 ((room:Int)+(took:Int))):=by rw [cell_of H1];simp
   have e41:(w.setCell ⟨wb,5,none⟩ (.int .i64 ((room:Int)+(took:Int)))).cell? ⟨wb,4,none⟩=some (.slice A n c):=by rw [cell_of H1];rfl
   have HN:Hid (∀ W,WKB W wb rv ov mv dv (.slice A n c) (room+took)→Calls Tryz.prog 48 #[.pointer (some ⟨wb,4,none⟩)] W fun e w'=>w'=W.drew∧e = .returned (.slice (nowA A c (room+took)) (n - (room+took)) (c - (room+took)))):=fun W hW=>now_any hW (by omega) hnc.1 hnc.2
   have HH1:=Hid.mk' H1
   have hmk:=make_big (k+n) (by omega)
   rw [show ((k+n:Nat):Int)=(k:Int)+(n:Int) by omega] at hmk
   obtain ⟨w1,hw1⟩:∃ w1,w1=w.setCell ⟨wb,5,none⟩ (.int .i64 ((room:Int)+(took:Int))):=⟨_,rfl⟩
   have hs1:w1.heap.size=w.heap.size:=by rw [hw1];simp [World.setCell]
   have hF1:Fr w w1 fun k=>k=wb:=by rw [hw1];exact fr_set _ _ _ _
   have hIR:IR w1 (.slice (nowA A c (room+took)) (n - (room+took)) (c - (room+took))) (uu.drop (room+took)):=ir_now (OwnI.ir (own_fr hO hF1 fun b hb e=>h.ne hO hb e)) hl hnc.1 hr
   have HF1:=Hid.mk' hF1
   have HC:Hid (∀ W,Grown w1 W→W.heap=((w1.alloc (.cells (ints (List.replicate (k+n) 0)).toArray 3)).alloc (.cells #[.slice (some ⟨w.heap.size,0,none⟩) (k+n) (k+n),.slice (nowA A c (room+took)) (n - (room+took)) (c - (room+took))] 38)).heap →
    Calls Tryz.prog 102 #[.slice (some ⟨w.heap.size+1,0,none⟩) 2 2] W fun e w'=>∃ g' c',e = .returned (.slice (some ⟨g',0,none⟩) (k+n+(n - (room+took))) c')∧w.heap.size≤g'∧OwnI w' w.heap.size (.slice (some ⟨g',0,none⟩) (k+n+(n - (room+took))) c') (List.replicate (k+n) 0++uu.drop (room+took))∧Fr w1 w' fun _=>False):=by
    intro W hG hZ0
    have hZ1:W.heap[w.heap.size+1]? = some (.cells #[.slice (some ⟨w.heap.size,0,none⟩) (k+n) (k+n),.slice (nowA A c (room+took)) (n - (room+took)) (c - (room+took))] 38 (0,0)):=by
     rw [hZ0,←hs1,←World.size_alloc w1 (.cells (ints (List.replicate (k+n) 0)).toArray 3)]
     exact heap_alloc_new _ _
    have hZ:W.heap[w.heap.size]? = some (.cells (ints (List.replicate (k+n) 0)).toArray 3 (0,0)):=by
     rw [hZ0,←hs1]
     exact (((Grown.refl _).alloc _).below.block _ (blk_lt (heap_alloc_new w1 _))).trans (heap_alloc_new w1 _)
    have q1:W.cell? ⟨w.heap.size+1,0,none⟩=some (.slice (some ⟨w.heap.size,0,none⟩) (k+n) (k+n)):=by rw [cell_of hZ1];rfl
    have q2:W.cell? ⟨w.heap.size+1,1,none⟩=some (.slice (nowA A c (room+took)) (n - (room+took)) (c - (room+took))):=by rw [cell_of hZ1];rfl
    refine (concat_any _ _ _ _ _ W q1 q2 (ir_zeros hZ) (hIR.grown hG) (by simp;omega) (by simp;omega)).mono ?_
    rintro e w' ⟨v',rfl,h1,h2⟩
    have hlen:(List.replicate (k+n) (0:Int)++uu.drop (room+took)).length=k+n+(n - (room+took)):=by simp;omega
    have hF:Fr w1 w' fun _=>False:=(fr_grown hG _).trans (fr_below h2 (Nat.le_refl _) _) fun _ _ e=>e
    rcases h1.2 with ⟨_,h3⟩ | ⟨g,cap,cur,e,h3,h4⟩
    · rw [hlen] at h3;omega
    · have hg:w.heap.size≤g:=by have:=hG.size;omega
      have h5:=h1.le (base':=w.heap.size) (by have:=hG.size;omega)
      subst e
      rw [hlen] at h5 ⊢
      exact ⟨g,cap,rfl,hg,h5,hF⟩
   rw [hw1] at HC
   clear hw1 hs1 hF1 hIR h hO hl hk H1 hnc
   go_enter Tryz.func75,Tryz.ntmps75
   go_wp2
   go_region_with (first
    | (go_at_call 48;go_must (refine (HN.out _ (HH1.out.fr (fr_grown (by (repeat (first | exact Grown.refl _ | refine Grown.alloc ?_ _ | refine Grown.drew ?_ | refine Grown.drewN ?_ _ | refine Grown.quiet ?_ _ _))) fun _=>False) id)).mono ?_;rintro e w2 ⟨rfl,rfl⟩))
    | (go_at_call 102;go_must (refine (HC.out _ ?_ ?_).mono ?_;(repeat (first | exact Grown.refl _ | refine Grown.alloc ?_ _ | refine Grown.drew ?_ | refine Grown.drewN ?_ _ | refine Grown.quiet ?_ _ _));rfl;rintro e w3 ⟨g',c',rfl,hg',hO3,hF3⟩;have HG':=Hid.mk' hg';have HO3:=Hid.mk' hO3;have HF3:=Hid.mk' hF3;have HH3:=Hid.mk' (HH1.out.fr hF3 id);have e43:w3.cell? ⟨wb,4,none⟩=some (.slice A n c):=(cell_of HH3.out).trans rfl;have f43:w3.frozen? ⟨wb,4,none⟩=false:=free_of HH3.out;clear hg' hO3 hF3)))
   all_goals
    obtain ⟨m,hm⟩:∃ m,k+n+(n - (room+took))=m:=⟨_,rfl⟩
    have HM:=Hid.mk' hm
    rw [hm] at HO3 ⊢
    have mI:(m:Int)≤1000000000:=by omega
    clear hm
    have H3:=HH3.out.units (.slice (some ⟨g',0,none⟩) m c')
    have H4:=H3.room ((k:Int)+(n:Int)) (k+n) (by omega)
    have H5:=H4.room ((k:Int)+(n:Int) - (k:Int)) n (by omega)
    have e53:(w3.setCell ⟨wb,4,none⟩ (.slice (some ⟨g',0,none⟩) m c')).cell? ⟨wb,5,none⟩=some (.int .i64 ((room+took:Nat):Int)):=(cell_of H3).trans rfl
    have f53:=free_of (j:=5) H3
    have e54:((w3.setCell ⟨wb,4,none⟩ (.slice (some ⟨g',0,none⟩) m c')).setCell ⟨wb,5,none⟩ (.int .i64 ((k:Int)+(n:Int)))).cell? ⟨wb,5,none⟩=some (.int .i64 ((k:Int)+(n:Int))):=(cell_of H4).trans (by simp)
    have f54:=free_of (j:=5) H4
    have HH5:=Hid.mk' H5
    have hmc:m≤c':=by
     rcases HO3.out.2 with ⟨e,_⟩ | ⟨g,cap,cur,e,_,_,h1,_⟩
     · cases e
     · injection e with e1 e2 e3
       rw [←e2] at h1
       omega
    have HL3:Hid ((List.replicate (k+n) (0:Int)++uu.drop (room+took)).length=m):=by
     have:=HL.out
     have:=HM.out
     show _=_
     simp;omega
    have hF5:Fr w3 ((((w3.setCell ⟨wb,4,none⟩ (.slice (some ⟨g',0,none⟩) m c')).setCell ⟨wb,5,none⟩ (.int .i64 ((k:Int)+(n:Int)))).setCell ⟨wb,5,none⟩ (.int .i64 ((k:Int)+(n:Int) - (k:Int)))).drew) fun k=>k=wb:=(((fr_set _ _ _ _).trans (fr_set _ _ _ _) fun _ _ e=>e).trans (fr_set _ _ _ _) fun _ _ e=>e).trans (fr_grown (Grown.refl _).drew _) fun _ _ e=>e
    have HF5:=Hid.mk' hF5
    have hF03:Fr w w3 fun k=>k=wb:=(fr_set _ _ _ _).trans (HF3.out.mono fun _ _ e=>e.elim) fun _ _ e=>e
    have HF03:=Hid.mk' hF03
    have HO5:=Hid.mk' (own_fr HO3.out hF5 fun b hb e=>HH3.out.ne HO3.out hb e)
    have HB5:=Hid.mk' ((HB.out.fr hF03 fun b hb e=>hbw (by rw [hb,e])).fr hF5 fun b hb e=>hbw (by rw [hb,e]))
    obtain ⟨w6,hrun,hO6,hF6⟩:=copy_now (room:=n) HO5.out HB5.out HL3.out (by have:=HK.out;have:=HM.out;omega) hmc
    rw [HK.out] at hrun
    have HR6:=Hid.mk' hrun
    have HO6:=Hid.mk' hO6
    have HF6:=Hid.mk' hF6
    have HN5:=Hid.mk' (now_any H5 (by have:=HM.out;omega) hmc (fun e=>by cases e))
    have HMC:=Hid.mk' hmc
    clear H3 H4 H5 hF5 hF03 hrun hO6 hF6 hmc
    go_wp2_with (
     (go_at_call 48
      refine HN5.out.mono ?_
      rintro e w2 ⟨rfl,rfl⟩))
    rw [HR6.out]
    go_wp2
    go_end0
    have hk:=HK.out
    have hl:=HL.out
    have hm:=HM.out
    have hl3:=HL3.out
    have hgne:∀ b,(Value.slice (some ⟨g',0,none⟩) m c').ownBlock=some b→b≠wb:=fun b hb=>HH3.out.ne HO3.out hb
    have hg'w:w.heap.size≤g':=HG'.out
    refine ⟨rfl,⟨some ⟨g',0,none⟩,c',m,n,_,?_,HO6.out.le hbase,by rw [List.length_append,List.length_append,List.length_take,List.length_drop,hl3];omega,by omega,?_,.inr ⟨by omega,by omega⟩,.inr ⟨g',rfl,hg'w⟩⟩,?_⟩
    · have H6:WKB _ wb rv ov mv dv (.slice (some ⟨g',0,none⟩) m c') n:=HH5.out.fr (fr_grown (Grown.refl _).drew fun _=>False) id
      exact H6.fr HF6.out fun e=>hgne wb e rfl
    · rw [hk,List.append_assoc,List.drop_append_of_le_length (by rw [List.length_take,hl3];omega),List.drop_eq_nil_of_le (by rw [List.length_take];omega),List.nil_append,List.drop_append_of_le_length (by simp;omega),List.drop_eq_nil_of_le (by simp;omega),List.nil_append]
    · refine ((HF03.out.mono fun _ _ e => .inl e).trans HF5.out fun _ _ e => .inl e).trans HF6.out fun i hi e => ?_
      injection e with e
      have e:g'=i:=e
      omega
 · have hd:decide ((room:Int)+(took:Int)<(k:Int))=false:=decide_eq_false (by omega)
   have H1:=h.room ((room:Int)+(took:Int)) (room+took) (by omega)
   have H2:=H1.room ((room:Int)+(took:Int) - (k:Int)) (room+took - k) (by omega)
   have e51:(w.setCell ⟨wb,5,none⟩ (.int .i64 ((room:Int)+(took:Int)))).cell? ⟨wb,5,none⟩=some (.int .i64 ((room:Int)+(took:Int))):=by rw [cell_of H1];simp
   have f51:(w.setCell ⟨wb,5,none⟩ (.int .i64 ((room:Int)+(took:Int)))).frozen? ⟨wb,5,none⟩=false:=free_of H1
   have HN:Hid (∀ W,WKB W wb rv ov mv dv (.slice A n c) (room+took - k)→Calls Tryz.prog 48 #[.pointer (some ⟨wb,4,none⟩)] W fun e w'=>w'=W.drew∧e = .returned (.slice (nowA A c (room+took - k)) (n - (room+took - k)) (c - (room+took - k)))):=fun W hW=>now_any hW (by omega) hnc.1 hnc.2
   have hF2:Fr w (((w.setCell ⟨wb,5,none⟩ (.int .i64 ((room:Int)+(took:Int)))).setCell ⟨wb,5,none⟩ (.int .i64 ((room:Int)+(took:Int) - (k:Int)))).drew) fun k=>k=wb:=((fr_set _ _ _ _).trans (fr_set _ _ _ _) fun _ _ e=>e).trans (fr_grown (Grown.refl _).drew _) fun _ _ e=>e
   have HF2:=Hid.mk' hF2
   have HO2:=Hid.mk' (own_fr hO hF2 fun b hb e=>h.ne hO hb e)
   have HB2:=Hid.mk' (HB.out.fr hF2 fun b hb e=>hbw (by rw [hb,e]))
   have HH2:=Hid.mk' H2
   obtain ⟨w3,hrun,hO3,hF3⟩:=copy_now (room:=room+took - k) HO2.out HB2.out hl (by omega) hnc.1
   rw [hk] at hrun
   have HR3:=Hid.mk' hrun
   have HO3:=Hid.mk' hO3
   have HF3:=Hid.mk' hF3
   clear h hO hl hk H1 H2 hF2 hnc hrun hO3 hF3
   go_enter Tryz.func75,Tryz.ntmps75
   go_wp2_with (
    (go_at_call 48
     refine (HN.out _ HH2.out).mono ?_
     rintro e w2 ⟨rfl,rfl⟩))
   rw [HR3.out]
   go_wp2
   go_end0
   have hk:=HK.out
   have hl:=HL.out
   have hne:∀ b,(Value.slice A n c).ownBlock=some b→b≠wb:=fun b hb=>HW.out.ne HO.out hb
   refine ⟨rfl,⟨A,c,n,room+took - k,_,?_,HO3.out,by simp;omega,by omega,?_,.inl rfl,.inl (by cases A <;> rfl)⟩,(HF2.out.mono fun _ _ e => .inl e).trans HF3.out fun _ _ e => .inr e⟩
   · have H3:WKB _ wb rv ov mv dv (.slice A n c) (room+took - k):=HH2.out.fr (fr_grown (Grown.refl _).drew fun _=>False) id
     exact H3.fr HF3.out fun e=>hne wb e rfl
   · rw [hk,show room+took - k+k=room+took by omega,List.append_assoc,List.drop_append_of_le_length (by simp;omega),List.drop_eq_nil_of_le (by simp;omega),List.nil_append]
theorem uAt_tail (s:ByteArray) (p:Nat) (hp:p<s.size):uAt (s.extract p s.size) 0=uAt s p:=by
 have h1:Utf8.decode (s.extract p s.size) 0=Utf8.decode s p:=Lib.tail_decode s p 0
 have h2:((s.extract p s.size).data.toList.drop 0)=s.data.toList.drop p:=by rw [Lib.extract_to_end];rfl
 have h3:(s.extract p s.size).get! 0=s.get! p:=get_ext s p s.size 0 (by omega) (Nat.le_refl _)
 unfold uAt strayAt
 rw [h1,h2,h3]
theorem firstU_tail (s:ByteArray) (p:Nat) (hp:p<s.size):(firstU (s.extract p s.size)).1=(uAt s p:Int):=by
 have hz:(s.extract p s.size).size=(s.size - p - 1)+1:=by simp [ByteArray.size_extract];omega
 unfold firstU units
 rw [hz,unitsN_step _ _ 0 (by omega),uAt_tail s p hp]
theorem uAt_plain (s:ByteArray) (p:Nat) (h:¬ (Utf8.decode s p).1=65533):uAt s p=(Utf8.decode s p).1:=uAt_rune (by unfold strayAt;simp [h])
theorem intsU_snoc (l:List (Nat × Nat)) (x:Nat × Nat):intsU (l++[x])=intsU l++[(x.2:Int)]:=by simp [intsU]
set_option maxHeartbeats 4000000 in
theorem units_any (s:ByteArray) (w:World) (hs:s.size≤1000000000):Calls Tryz.prog 47 #[.string s] w fun e w'=>∃ v,e = .returned v∧OwnI w' w.heap.size v (intsU (units s))∧Below w.heap.size w w':=by
 have hsI:(s.size:Int)≤1000000000:=by omega
 obtain ⟨bx,hbx⟩:∃ bx,w.heap.size=bx:=⟨_,rfl⟩
 have HBX:=Hid.mk' hbx
 go_enter Tryz.func47,Tryz.ntmps47
 go_wp2
 skip
 clear hbx
 go_loopw [3,4,5,6] (fun v3 _ _ _ wr=>∃ (done:List (Nat × Nat)) (p k:Nat),wr.heap[bx]? = some (.stringIter s p)∧Hid (units s=done++unitsN s k p)∧s.size≤p+k∧Hid (OwnI wr (bx+1) v3 (intsU done)∧Below bx w wr)) (fun _ _ _ _ wr=>s.size - wr.iterPos bx)
 case atStart=>
  refine ⟨[],0,s.size,?_,rfl,by omega,OwnI.nil _ _,?_⟩
  · have:=World.iter_heap w s 0;rw [HBX.out] at this;exact this
  · have:=(Below.refl w.heap.size w).alloc (Nat.le_refl _) (.stringIter s 0);rw [HBX.out] at this;exact this
 case round=>
  obtain ⟨done,p,k,hit,HU,hk,HO⟩:=hrel
  obtain ⟨x1,x2,x3,hsl⟩:=HO.out.1.ir.sl
  subst hsl
  have hz:bx<wr.heap.size:=blk_lt hit
  by_cases hp:p<s.size
  · obtain ⟨k,rfl⟩:∃ j,k=j+1:=⟨k - 1,by omega⟩
    have hnx:∀ ty,(Instr.next (.pointer (some ⟨bx,0,none⟩)) true ty).run Tryz.prog wr=_:=fun ty=>Lib.run_next_any_at wr bx s p ty hit hp
    have hit2:=Lib.iterAt_heap wr bx s p (p+(Utf8.decode s p).2) hit
    have hpos:=uw_pos s p
    have HM:Hid (∀ W:World,W.heap[bx]? = some (.stringIter s (p+uw s p))→s.size - W.iterPos bx<s.size - wr.iterPos bx):=fun W hW=>by rw [iterPos_of hit,iterPos_of hW];omega
    have HU2:Hid (units s=(done++[(p,uAt s p)])++unitsN s k (p+uw s p)):=by
     show units s=(done++[(p,uAt s p)])++unitsN s k (p+uw s p)
     rw [HU.out,unitsN_step s k p hp];simp
    have hdl:(intsU done).length+1≤8796093022208:=by
     have h1:=units_len s
     rw [HU.out,List.length_append] at h1
     rw [intsU_length];omega
    obtain ⟨W1,hW1⟩:∃ W1,W1=wr.iterAt bx s (p+(Utf8.decode s p).2):=⟨_,rfl⟩
    have hO1:OwnI W1 (bx+1) (.slice x1 x2 x3) (intsU done):=by
     refine own_fr (B:=fun k=>k=bx) HO.out.1 ⟨by rw [hW1];rfl,by rw [hW1];rfl,by rw [hW1];rfl,by rw [hW1,Lib.iterAt_size];exact Nat.le_refl _,fun j _ hj=>by rw [hW1];exact Lib.iterAt_other wr bx j s _ hj⟩ fun b hb e => ?_
     have:=(World.ownsRow.lt HO.out.1 b hb).1
     omega
    have hB1:Below bx w W1:=by rw [hW1];exact Lib.below_iterAt HO.out.2 (Nat.le_refl _) s _
    have hz1:bx+1≤W1.heap.size:=by rw [hW1,Lib.iterAt_size];omega
    rw [←hW1] at hit2 hnx
    have HN:Hid (∀ W2,Below W1.heap.size W1 W2→∀ ob,OwnI (W2.alloc ob) (bx+1) (.slice x1 x2 x3) (intsU done)∧bx+1≤(W2.alloc ob).heap.size∧Below (bx+1) W1 (W2.alloc ob)):=fun W2 h2 ob=>by
     have g:=(Grown.refl W2).alloc ob
     have h3:Below W1.heap.size W1 (W2.alloc ob):=h2.trans (g.below.mono h2.size)
     exact ⟨hO1.below h3 (Nat.le_refl _),by have:=h3.size;omega,h3.mono hz1⟩
    have HE:Hid (∀ v3 w3,OwnI w3 (bx+1) v3 (intsU done++[(uAt s p:Int)])→Below (bx+1) W1 w3→w3.heap[bx]? = some (.stringIter s (p+uw s p))∧Hid (OwnI w3 (bx+1) v3 (intsU (done++[(p,uAt s p)]))∧Below bx w w3)):=fun v3 w3 h1 h2=>by
     refine ⟨(h2.block bx (by omega)).trans hit2,?_⟩
     show _∧_
     rw [intsU_snoc]
     exact ⟨h1,hB1.trans (h2.mono (by omega))⟩
    have r1:((Utf8.decode s p).1:Int)<1114112:=by have:=dec_lt s p;omega
    have pI:(p:Int)<(s.size:Int):=by omega
    by_cases hr:(Utf8.decode s p).1=65533
    · have HF:Hid (∀ W,Calls Tryz.prog 72 #[.string (s.extract p s.size)] W fun e w'=>∃ z,e = .returned (.tuple #[.int .i64 (uAt s p:Int),.int .i64 z])∧Below W.heap.size W w'):=fun W=>by
       refine (first_any (s.extract p s.size) W (by have:(s.extract p s.size).size=s.size - p:=by simp [ByteArray.size_extract]
                                                    unfold maxLen;omega)).mono ?_
       rintro e w' ⟨rfl,hb⟩
       exact ⟨_,by rw [firstU_tail s p hp],hb⟩
      rw [hr] at hnx
      clear hW1 hO1 hB1 hit hit2 HO HU hpos hr r1
      go_wp2_with (first
       | (go_at_call 72
          refine (HF.out _).mono ?_
          rintro e w2 ⟨z,rfl,hb2⟩
          have HB2:=Hid.mk' (HN.out w2 hb2)
          clear hb2)
       | (at_builtin;go_must
        (refine push_I rfl _ _ 38 rfl Tryz.underlying38 (bx+1) _ (intsU done) rfl (HB2.out _).1 _ _ (uAt s p:Int) rfl (by (first | (simp;done) | exact new_cell _ _ _ _ rfl)) hdl (HB2.out _).2.1 ?_
         intro v3 w3 hO3 hB3
         have HZ3:=Hid.mk' (HE.out v3 w3 hO3 ((HB2.out _).2.2.trans hB3))
         clear hO3 hB3)))
      exact ⟨⟨_,_,k,HZ3.out.1,HU2,by have:=uw_pos s p;omega,HZ3.out.2⟩,HM.out _ HZ3.out.1⟩
    · have HP:Hid (uAt s p=(Utf8.decode s p).1):=uAt_plain s p hr
      have HB2:=Hid.mk' (HN.out W1 (Below.refl _ _))
      rw [HP.out] at HE HU2
      obtain ⟨r,hrr⟩:∃ r,(Utf8.decode s p).1=r:=⟨_,rfl⟩
      have HR:=Hid.mk' hrr
      rw [hrr] at hnx HE HU2 hr r1
      have r2:¬ (r:Int)=65533:=by omega
      have r3:((r:Int) == 65533)=false:=by simpa using r2
      clear hW1 hO1 hB1 hit hit2 HO HU hpos hr hrr
      go_wp2_with (at_builtin;go_must
            (refine push_I rfl _ _ 38 rfl Tryz.underlying38 (bx+1) _ (intsU done) rfl (HB2.out _).1 _ _ (r:Int) rfl (by (first | (simp;done) | exact new_cell _ _ _ _ rfl)) hdl (HB2.out _).2.1 ?_
             intro v3 w3 hO3 hB3
             have HZ3:=Hid.mk' (HE.out v3 w3 hO3 ((HB2.out _).2.2.trans hB3))
             clear hO3 hB3))
      exact ⟨⟨_,_,k,HZ3.out.1,HU2,by have:=uw_pos s p;omega,HZ3.out.2⟩,HM.out _ HZ3.out.1⟩
  · have hnx:∀ ty,(Instr.next (.pointer (some ⟨bx,0,none⟩)) true ty).run Tryz.prog wr=_:=fun ty=>Lib.run_next_end_at wr bx s p ty hit hp
    have HD:Hid (units s=done):=by
     show _=_
     rw [HU.out,unitsN_end s k p hp,List.append_nil]
    clear hit HU
    go_wp2
    go_ret
    refine ⟨_,rfl,?_,?_⟩
    · rw [HD.out];exact HO.out.1.le (by rw [HBX.out];omega)
    · rw [HBX.out];exact HO.out.2
structure StQ (w w':World) (rs:List Rl) (v:Value) (s:ByteArray) (wb mb:Nat) (lv uv:Value) (d:List Int):Prop where
 blk:WKB w' wb v lv (.map (some mb)) (.slice none 0 0) uv 0
 map:IMap w' mb 0 (fun _=>none)
 ord:OwnI w' w.heap.size lv d
 len:d.length=rs.length
 srt:Sg (klI rs) d 0 rs.length
 lft:OwnI w' (mb+1) uv (intsU (units s))
 lo:∀ b,lv.ownBlock=some b→b<mb
 up:∀ b,uv.ownBlock=some b→b<wb
 mw:mb<wb
 mb:w.heap.size≤mb
 bel:Below w.heap.size w w'
def StE (w:World) (rs:List Rl) (v:Value) (s:ByteArray) (e:Ending) (w':World):Prop:=∃ wb mb lv uv d,e = .returned (.pointer (some ⟨wb,0,none⟩))∧StQ w w' rs v s wb mb lv uv d
set_option maxHeartbeats 4000000 in
theorem start_any (v:Value) (rs:List Rl) (s:ByteArray) (w:World) (h:PsR w v rs) (hn:rs.length≤1000000) (hz:∀ r∈rs,r.key.length≤1000000) (hs:s.size≤1000000000):Calls Tryz.prog 26 #[v,.string s] w (StE w rs v s):=by
 have HL:=Hid.mk' (longest_any v rs w h hn hz)
 have HU:Hid (∀ W,Calls Tryz.prog 47 #[.string s] W fun e w'=>∃ v,e = .returned v∧OwnI w' W.heap.size v (intsU (units s))∧Below W.heap.size W w'):=fun W=>units_any s W hs
 have hmm := @run_makeMap Tryz.prog
 obtain ⟨v1,v2,v3,hv⟩:IsSl v:=by obtain ⟨a,b,e,_⟩:=h;exact ⟨_,_,_,e⟩
 subst hv
 clear h hn hz hs
 go_enter Tryz.func26,Tryz.ntmps26
 go_wp2_with (first
  | (go_at_call 46
     refine HL.out.mono ?_
     rintro e w1 ⟨lv,d,rfl,hO1,hd1,hS1,hB1⟩
     have H1:=Hid.mk' (And.intro hO1 (And.intro hd1 (And.intro hS1 hB1)))
     obtain ⟨y1,y2,y3,hsl⟩:=hO1.ir.sl
     subst hsl
     clear hO1 hd1 hS1 hB1)
  | (go_at_call 47
     refine (HU.out _).mono ?_
     rintro e w2 ⟨uv,rfl,hO2,hB2⟩
     have H2:=Hid.mk' (And.intro hO2 hB2)
     obtain ⟨z1,z2,z3,hsl⟩:=hO2.ir.sl
     subst hsl
     clear hO2 hB2))
 go_ret
 obtain ⟨hO1,hd1,hS1,hB1⟩:=H1.out
 obtain ⟨hO2,hB2⟩:=H2.out
 have hz1:(w1.alloc (.map #[] 0)).heap.size=w1.heap.size+1:=by simp
 rw [hz1] at hO2 hB2
 have hB3:Below (w1.heap.size+1) (w1.alloc (.map #[] 0)) (w2.alloc (.cells #[.slice v1 v2 v3,.slice y1 y2 y3,.map (some w1.heap.size),.slice none 0 0,.slice z1 z2 z3,.int .i64 0] 77)):=hB2.alloc (by have:=hB2.size;rw [hz1] at this;omega) _
 have hB13:Below w1.heap.size w1 _:=((Below.refl _ w1).alloc (Nat.le_refl _) (.map #[] 0)).trans (hB3.mono (by omega))
 have hs2:w1.heap.size+1≤w2.heap.size:=by have:=hB2.size;rw [hz1] at this;exact this
 refine ⟨w2.heap.size,w1.heap.size,_,_,d,rfl,heap_alloc_new _ _,(IMap.made w1).kept fun o ho => ?_,hO1.below hB13 (Nat.le_refl _),hd1,hS1,hO2.alloc _,fun b hb=>(World.ownsRow.lt hO1 b hb).2,fun b hb=>(World.ownsRow.lt hO2 b hb).2,by omega,hB1.size,hB1.trans (hB13.mono hB1.size)⟩
 exact (hB3.block _ (by omega)).trans ho
end Go.Proofs
