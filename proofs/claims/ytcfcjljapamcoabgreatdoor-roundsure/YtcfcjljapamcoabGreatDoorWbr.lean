/-
  What is wrong with a piece of a rule's result.
-/
import Derived.RangeFuncNested
import Derived.RangeFuncBound
import Derived.RangeFuncCalls
import Derived.RangeFuncLeaves
import Derived.Shelf.Abstract
import Derived.Shelf.RegionOpen
import Derived.WalkKit
import Derived.WalkSpells
import Derived.WalkLawsBesides
import Derived.OwnWalkIn
import Derived.TacticsInMore
import Derived.LoopNIn
import Derived.LoopIn
import Derived.BigQuiet
import Derived.RegionIn
import Derived.Deep.QuietTactic
import Derived.Deep.RegionWith
import Derived.Lib.OthersKept
import Derived.Maps.AppendAt
import Derived.Lib.SmallJoins
import Derived.Deep.DrawnRows
import Derived.Shelf.SlSortCmp.QuietGrown
import Derived.Test.YtcfcjljapamcoabGreatDoorWar
namespace Go.Proofs
open Go.RowKit Go.Shelf
set_option maxRecDepth 100000
attribute [local go_sem] Oper.semAt_some
attribute [local go_sem ↓] Go.wp_at_zero Go.wp_at_succ
def matB (f t:List (Int × Int)):Bool:=validB t && decide (lenU f=lenU t)
set_option maxHeartbeats 1000000 in
theorem matched_any (fv tv:Value) (f t:List (Int × Int)) (w:World) (hT:Tab w) (hf:Rs w fv f) (ht:Rs w tv t):Calls Tryz.prog 144 #[fv,tv] w fun e w'=>e = .returned (.bool (matB f t))∧Grown w w':=by
 have HV:Hid (Calls Tryz.prog 38 #[tv] w fun e w'=>e = .returned (.bool (validB t))∧Grown w w'):=valid_any tv t w hT ht
 have HF:Hid (∀ W,Grown w W→Calls Tryz.prog 111 #[fv] W fun e w'=>e = .returned (.int .i64 (lenU f))∧Grown W w'):=fun W hW=>len_any fv f W (hT.grown hW) (hf.grown hW)
 have HL:Hid (∀ W,Grown w W→Calls Tryz.prog 111 #[tv] W fun e w'=>e = .returned (.int .i64 (lenU t))∧Grown W w'):=fun W hW=>len_any tv t W (hT.grown hW) (ht.grown hW)
 unfold matB
 generalize lenU f=p at HF
 generalize lenU t=q at HL
 generalize validB t=b at HV
 clear hT hf ht
 cases b with
 | false=>
  go_enter Tryz.func144,Tryz.ntmps144
  go_wp2_with fail
  refine HV.out.mono ?_
  rintro e w1 ⟨rfl,hb1⟩
  go_wp2
  go_ret
  exact ⟨rfl,hb1⟩
 | true=>
  by_cases hpq:p=q
  · subst hpq
    go_enter Tryz.func144,Tryz.ntmps144
    go_wp2_with fail
    refine HV.out.mono ?_
    rintro e w1 ⟨rfl,hb1⟩
    go_wp2_with fail
    refine (HF.out _ hb1).mono ?_
    rintro e w2 ⟨rfl,hb2⟩
    go_wp2_with fail
    refine (HL.out _ (hb1.trans hb2)).mono ?_
    rintro e w3 ⟨rfl,hb3⟩
    go_wp2
    go_ret
    exact ⟨by simp,(hb1.trans hb2).trans hb3⟩
  · have hq:(p == q)=false:=by simpa using hpq
    go_enter Tryz.func144,Tryz.ntmps144
    go_wp2_with fail
    refine HV.out.mono ?_
    rintro e w1 ⟨rfl,hb1⟩
    go_wp2_with fail
    refine (HF.out _ hb1).mono ?_
    rintro e w2 ⟨rfl,hb2⟩
    go_wp2_with fail
    refine (HL.out _ (hb1.trans hb2)).mono ?_
    rintro e w3 ⟨rfl,hb3⟩
    go_wp2
    go_ret
    exact ⟨by simp [hpq],(hb1.trans hb2).trans hb3⟩
def keyAt (key:List (List (Int × Int))) (y:Int):List (Int × Int):=key[y.toNat]?.getD []
def pcE (key:List (List (Int × Int))) (p:Pc):Int:=
 if p.k=1 then (if wd p.u=0∨p.y≠0∨p.tl≠[] then 73 else 0)
 else if p.k=2∨p.k=3 then
  (if p.u≠0∨(p.k=2∧p.tl≠[]) then 73
  else if p.y<0∨(key.length:Int)≤p.y then 74
  else if p.k=3∧matB (keyAt key p.y) p.tl=false then 75 else 0)
 else 73
set_option maxHeartbeats 2000000 in
theorem cp_unit (kv:Value) (u y:Int) (ta:Option Addr) (tn tc:Nat) (w:World):Calls Tryz.prog 120 #[kv,.agg #[.int .i64 1,.int .i64 u,.int .i64 y,.slice ta tn tc]] w fun e w'=>e = .returned (.int .i64 (if wd u=0∨y≠0∨tn≠0 then 73 else 0))∧Grown w w':=by
 have HC:=width_any u
 generalize wd u=q at HC
 by_cases h1:q=0
 · rw [if_pos (.inl h1)]
   subst h1
   go_enter Tryz.func120,Tryz.ntmps120
   go_wp2_with (go_at_call 37;refine (HC _).mono ?_;rintro e w' ⟨rfl,rfl⟩)
   go_ret
   exact ⟨rfl,(Grown.refl _).alloc _⟩
 · have hq:(q == 0)=false:=by simpa using h1
   by_cases h2:y=0
   · by_cases h3:tn=0
     · rw [if_neg (by simp [h1,h2,h3])]
       subst h2
       subst h3
       go_enter Tryz.func120,Tryz.ntmps120
       go_wp2_with (go_at_call 37;refine (HC _).mono ?_;rintro e w' ⟨rfl,rfl⟩)
       go_ret
       exact ⟨rfl,(Grown.refl _).alloc _⟩
     · rw [if_pos (.inr (.inr h3))]
       subst h2
       have h4:(0:Int)<(tn:Int):=by omega
       have h5:0<tn:=by omega
       go_enter Tryz.func120,Tryz.ntmps120
       go_wp2_with (go_at_call 37;refine (HC _).mono ?_;rintro e w' ⟨rfl,rfl⟩)
       go_ret
       exact ⟨rfl,(Grown.refl _).alloc _⟩
   · rw [if_pos (.inr (.inl h2))]
     have hq2:(y != 0)=true:=by simpa using h2
     go_enter Tryz.func120,Tryz.ntmps120
     go_wp2_with (go_at_call 37;refine (HC _).mono ?_;rintro e w' ⟨rfl,rfl⟩)
     go_ret
     exact ⟨rfl,(Grown.refl _).alloc _⟩
set_option maxHeartbeats 2000000 in
theorem cp_other (kv:Value) (k u y:Int) (ta:Option Addr) (tn tc:Nat) (w:World) (h1:k≠1) (h2:k≠2) (h3:k≠3):Calls Tryz.prog 120 #[kv,.agg #[.int .i64 k,.int .i64 u,.int .i64 y,.slice ta tn tc]] w fun e w'=>e = .returned (.int .i64 73)∧Grown w w':=by
 have e1:(k == 1)=false:=by simpa using h1
 have e2:(k == 2)=false:=by simpa using h2
 have e3:(k == 3)=false:=by simpa using h3
 go_enter Tryz.func120,Tryz.ntmps120
 go_wp2
 go_ret
 exact ⟨rfl,(Grown.refl _).alloc _⟩
set_option maxHeartbeats 2000000 in
theorem cp_copy (ka:Option Addr) (kn kc:Nat) (u y:Int) (ta:Option Addr) (tn tc:Nat) (w:World):Calls Tryz.prog 120 #[.slice ka kn kc,.agg #[.int .i64 2,.int .i64 u,.int .i64 y,.slice ta tn tc]] w fun e w'=>e = .returned (.int .i64 (if u≠0∨tn≠0 then 73 else if y<0∨(kn:Int)≤y then 74 else 0))∧Grown w w':=by
 have hm:=mixed
 by_cases h1:u=0
 · subst h1
   by_cases h2:tn=0
   · subst h2
     rw [if_neg (by simp)]
     by_cases h3:y<0
     · rw [if_pos (.inl h3)]
       go_enter Tryz.func120,Tryz.ntmps120
       go_wp2
       go_ret
       exact ⟨rfl,(Grown.refl _).alloc _⟩
     · have d3:decide (y<0)=false:=by simpa using h3
       by_cases h4:(kn:Int)≤y
       · rw [if_pos (.inr h4)]
         go_enter Tryz.func120,Tryz.ntmps120
         go_wp2
         go_ret
         exact ⟨rfl,(Grown.refl _).alloc _⟩
       · rw [if_neg (by omega)]
         have d4:decide ((kn:Int)≤y)=false:=by simpa using h4
         go_enter Tryz.func120,Tryz.ntmps120
         go_wp2
         refine wp_region_quiet_grown hm (by kernel_rfl) ?_
         repeat (go_big_quiet_step (fail))
         refine wpQuiet_nil ?_
         intro _ hw'
         obtain ⟨⟨nq,osq⟩,hw''⟩:=hw'
         subst hw''
         go_wp2
         go_ret
         exact ⟨rfl,((Grown.refl _).alloc _).quiet _ _⟩
   · rw [if_pos (.inr h2)]
     have h4:(0:Int)<(tn:Int):=by omega
     have h5:0<tn:=by omega
     go_enter Tryz.func120,Tryz.ntmps120
     go_wp2
     go_ret
     exact ⟨rfl,(Grown.refl _).alloc _⟩
 · rw [if_pos (.inl h1)]
   have hq2:(u != 0)=true:=by simpa using h1
   go_enter Tryz.func120,Tryz.ntmps120
   go_wp2
   go_ret
   exact ⟨rfl,(Grown.refl _).alloc _⟩
set_option maxHeartbeats 2000000 in
theorem cp_pair (kv:Value) (key:List (List (Int × Int))) (u y:Int) (tv:Value) (tl:List (Int × Int)) (w:World) (hT:Tab w) (hk:SR w kv key) (ht:Rs w tv tl):Calls Tryz.prog 120 #[kv,.agg #[.int .i64 3,.int .i64 u,.int .i64 y,tv]] w fun e w'=>e = .returned (.int .i64 (if u≠0 then 73 else if y<0∨(key.length:Int)≤y then 74 else if matB (keyAt key y) tl=false then 75 else 0))∧Grown w w':=by
 have hm:=mixed
 have HK:Hid (SR w kv key):=hk
 have HT:Hid (Rs w tv tl):=ht
 obtain ⟨ta,tn,tc,rfl⟩:=ht.sl
 obtain ⟨ka,kc,rfl,hkc,hk⟩:=hk
 clear ht
 obtain ⟨kn,hkn⟩:∃ kn,key.length=kn:=⟨_,rfl⟩
 rw [hkn]
 by_cases h1:u=0
 · subst h1
   rw [if_neg (by simp)]
   by_cases h3:y<0
   · rw [if_pos (.inl h3)]
     clear hk hkn
     go_enter Tryz.func120,Tryz.ntmps120
     go_wp2
     go_ret
     exact ⟨rfl,(Grown.refl _).alloc _⟩
   · have d3:decide (y<0)=false:=by simpa using h3
     by_cases h4:(kn:Int)≤y
     · rw [if_pos (.inr h4)]
       clear hk hkn
       go_enter Tryz.func120,Tryz.ntmps120
       go_wp2
       go_ret
       exact ⟨rfl,(Grown.refl _).alloc _⟩
     · rw [if_neg (by omega)]
       have d4:decide ((kn:Int)≤y)=false:=by simpa using h4
       obtain ⟨j,rfl⟩:∃ j:Nat,y=(j:Int):=⟨y.toNat,by omega⟩
       have hjl:j<key.length:=by omega
       rcases hk with rfl | ⟨g,o,rfl,hk⟩
       · simp at hjl
       obtain ⟨sv,hc,hs⟩:=hk j hjl
       have hka:keyAt key (j:Int)=key[j]:=by simp [keyAt,hjl]
       rw [hka]
       obtain ⟨ob,hob⟩:∃ ob,Obj.cells #[.int .i64 3,.int .i64 0,.int .i64 (j:Int),.slice ta tn tc] 58=ob:=⟨_,rfl⟩
       have HC:Hid (∀ m os,Calls Tryz.prog 144 #[sv,.slice ta tn tc] (Go.Sort.grow ((w.alloc (.cells #[.int .i64 3,.int .i64 0,.int .i64 (j:Int),.slice ta tn tc] 58)).drewN m) os) fun e w'=>e = .returned (.bool (matB key[j] tl))∧Grown (Go.Sort.grow ((w.alloc (.cells #[.int .i64 3,.int .i64 0,.int .i64 (j:Int),.slice ta tn tc] 58)).drewN m) os) w'):=fun m os=>by
        have hG:=((Grown.refl w).alloc (.cells #[.int .i64 3,.int .i64 0,.int .i64 (j:Int),.slice ta tn tc] 58)).quiet m os
        exact matched_any sv _ key[j] tl _ (hT.grown hG) (hs.grown hG) (HT.out.grown hG)
       have e2:∀ m os,(Go.Sort.grow ((w.alloc (.cells #[.int .i64 3,.int .i64 0,.int .i64 (j:Int),.slice ta tn tc] 58)).drewN m) os).cell? ⟨w.heap.size,2,none⟩=some (.int .i64 (j:Int)):=fun m os=>cell_grown (by simp) (by simp) m os
       have e3:∀ m os,(Go.Sort.grow ((w.alloc (.cells #[.int .i64 3,.int .i64 0,.int .i64 (j:Int),.slice ta tn tc] 58)).drewN m) os).cell? ⟨w.heap.size,3,none⟩=some (.slice ta tn tc):=fun m os=>cell_grown (by simp) (by simp) m os
       have e4:∀ m os,(Go.Sort.grow ((w.alloc (.cells #[.int .i64 3,.int .i64 0,.int .i64 (j:Int),.slice ta tn tc] 58)).drewN m) os).cell? ⟨g,o+j,none⟩=some sv:=fun m os=>(((Grown.refl _).alloc _).quiet m os).cellv hc
       have hj0:(0:Int)≤(j:Int):=by omega
       have hj1:(j:Int)<(kn:Int):=by omega
       generalize matB key[j] tl=b at HC
       clear hk hkn HK HT hs hka hjl hc hT hob
       cases b with
       | true=>
        rw [if_neg (by simp)]
        go_enter Tryz.func120,Tryz.ntmps120
        go_wp2
        refine wp_region_quiet_grown hm (by kernel_rfl) ?_
        repeat (go_big_quiet_step ((go_at_call 144;exact grown_of (HC.out _ _))))
        refine wpQuiet_nil ?_
        intro _ hw'
        obtain ⟨⟨nq,osq⟩,hw''⟩:=hw'
        subst hw''
        go_wp2
        go_ret
        exact ⟨rfl,((Grown.refl _).alloc _).quiet _ _⟩
       | false=>
        rw [if_pos rfl]
        go_enter Tryz.func120,Tryz.ntmps120
        go_wp2
        refine wp_region_quiet_grown hm (by kernel_rfl) ?_
        repeat (go_big_quiet_step ((go_at_call 144;exact grown_of (HC.out _ _))))
        refine wpQuiet_nil ?_
        intro _ hw'
        obtain ⟨⟨nq,osq⟩,hw''⟩:=hw'
        subst hw''
        go_wp2
        go_ret
        exact ⟨rfl,((Grown.refl _).alloc _).quiet _ _⟩
 · rw [if_pos h1]
   have hq2:(u != 0)=true:=by simpa using h1
   clear hk hkn
   go_enter Tryz.func120,Tryz.ntmps120
   go_wp2
   go_ret
   exact ⟨rfl,(Grown.refl _).alloc _⟩
theorem len_zero_iff {w:World} {a:Option Addr} {n c:Nat} {l:List (Int × Int)} (h:Rs w (.slice a n c) l):n=l.length:=by
 obtain ⟨a',c',e,_⟩:=h
 cases e;rfl
theorem checkPiece_any (kv:Value) (key:List (List (Int × Int))) (p:Pc) (tv:Value) (w:World) (hT:Tab w) (hk:SR w kv key) (ht:Rs w tv p.tl):Calls Tryz.prog 120 #[kv,.agg #[.int .i64 p.k,.int .i64 p.u,.int .i64 p.y,tv]] w fun e w'=>e = .returned (.int .i64 (pcE key p))∧Grown w w':=by
 obtain ⟨k,u,y,tl⟩:=p
 simp only at ht ⊢
 unfold pcE
 simp only
 by_cases h1:k=1
 · subst h1
   rw [if_pos rfl]
   obtain ⟨ta,tn,tc,rfl⟩:=ht.sl
   have:=cp_unit kv u y ta tn tc w
   rw [len_zero_iff ht] at this ⊢
   simpa using this
 · rw [if_neg h1]
   by_cases h2:k=2
   · subst h2
     rw [if_pos (.inl rfl)]
     obtain ⟨ta,tn,tc,rfl⟩:=ht.sl
     obtain ⟨ka,kc,rfl,_,_⟩:=hk
     have:=cp_copy ka key.length kc u y ta tn tc w
     rw [len_zero_iff ht] at this ⊢
     simpa using this
   · by_cases h3:k=3
     · subst h3
       rw [if_pos (.inr rfl)]
       have:=cp_pair kv key u y tv tl w hT hk ht
       simpa using this
     · rw [if_neg (by omega)]
       obtain ⟨ta,tn,tc,rfl⟩:=ht.sl
       exact cp_other kv k u y ta tn tc w h1 h2 h3
end Go.Proofs
