/-
  Several texts in one (Na Nm Nb Nc Nd Ne Th Ti Tp).
-/
import Derived.RangeFuncNested
import Derived.RangeFuncBound
import Derived.RangeFuncCalls
import Derived.RangeFuncLeaves
import Derived.Shelf.Abstract
import Derived.Shelf.RegionOpen
import Derived.WalkKit
import Derived.WalkSpells
import Derived.WalkLawsBesides
import Derived.OwnWalkIn
import Derived.TacticsInMore
import Derived.LoopNIn
import Derived.LoopIn
import Derived.BigQuiet
import Derived.RegionIn
import Derived.Deep.QuietTactic
import Derived.Deep.RegionWith
import Derived.Lib.OthersKept
import Derived.Maps.AppendAt
import Derived.Lib.SmallJoins
import Derived.Shelf.SlSortCmp.QuietGrown
import Derived.Test.YtcfcjljapamcoabGreatDoorVbr
import Derived.Test.YtcfcjljapamcoabGreatDoorMpdr
import Derived.Test.YtcfcjljapamcoabGreatDoorMgar
import Derived.Test.YtcfcjljapamcoabGreatDoorMgbr
import Derived.Deep.Upon
import Derived.Test.YtcfcjljapamcoabGreatDoorMpqr
import Derived.Test.YtcfcjljapamcoabGreatDoorWfr
import Derived.Test.YtcfcjljapamcoabGreatDoorMger
import Derived.Test.YtcfcjljapamcoabGreatDoorMggr
namespace Go.Proofs
open Go.RowKit Go.Shelf
set_option maxRecDepth 100000
attribute [local go_sem] Oper.semAt_some
attribute [local go_sem ↓] Go.wp_at_zero Go.wp_at_succ
theorem nthI_in (g o n c:Nat) (x:Int) (k:Nat) (w:World) (hk:k<n) (hx:w.cell? ⟨g,o+k,none⟩=some (.int .i64 x)) :
 Calls Tryz.prog 164 #[.slice (some ⟨g,o,none⟩) n c,.int .i64 k] w fun e w'=>e = .returned (.tuple #[.int .i64 x,.bool true])∧w'=w:=by
 have i0:¬ (k:Int)<0:=by omega
 have i1:(0:Int)≤(k:Int):=by omega
 have i2:(k:Int)<(n:Int):=by omega
 have i3:¬ (n:Int)≤(k:Int):=by omega
 go_enter Tryz.func164,Tryz.ntmps164
 go_wp2
 go_ret2
 exact ⟨rfl,rfl⟩
theorem nthI_out (a:Option Addr) (n c:Nat) (k:Int) (w:World) (hk:k<0∨(n:Int)≤k) :
 Calls Tryz.prog 164 #[.slice a n c,.int .i64 k] w fun e w'=>e = .returned (.tuple #[.int .i64 0,.bool false])∧w'=w:=by
 by_cases h0:k<0
 · clear hk
   go_enter Tryz.func164,Tryz.ntmps164
   go_wp2
   go_ret2
   exact ⟨rfl,rfl⟩
 · have h1:(n:Int)≤k:=by omega
   clear hk
   go_enter Tryz.func164,Tryz.ntmps164
   go_wp2
   go_ret2
   exact ⟨rfl,rfl⟩
theorem nthS_in (g o n c:Nat) (sa:Option Addr) (sn sc:Nat) (k:Nat) (w:World) (hk:k<n) (hx:w.cell? ⟨g,o+k,none⟩=some (.slice sa sn sc)) :
 Calls Tryz.prog 165 #[.slice (some ⟨g,o,none⟩) n c,.int .i64 k] w fun e w'=>e = .returned (.tuple #[.slice sa sn sc,.bool true])∧w'=w:=by
 have i0:¬ (k:Int)<0:=by omega
 have i1:(0:Int)≤(k:Int):=by omega
 have i2:(k:Int)<(n:Int):=by omega
 have i3:¬ (n:Int)≤(k:Int):=by omega
 go_enter Tryz.func165,Tryz.ntmps165
 go_wp2
 go_ret2
 exact ⟨rfl,rfl⟩
theorem nthS_out (a:Option Addr) (n c:Nat) (k:Int) (w:World) (hk:k<0∨(n:Int)≤k) :
 Calls Tryz.prog 165 #[.slice a n c,.int .i64 k] w fun e w'=>e = .returned (.tuple #[.slice none 0 0,.bool false])∧w'=w:=by
 by_cases h0:k<0
 · clear hk
   go_enter Tryz.func165,Tryz.ntmps165
   go_wp2
   go_ret2
   exact ⟨rfl,rfl⟩
 · have h1:(n:Int)≤k:=by omega
   clear hk
   go_enter Tryz.func165,Tryz.ntmps165
   go_wp2
   go_ret2
   exact ⟨rfl,rfl⟩
theorem allE_chk {rs:List Rl} (h:(allE rs).2=0):rs.length≤256∧∀ r∈rs,chk r=0:=by
 unfold allE at h
 by_cases hn:256<rs.length
 · rw [if_pos hn] at h;cases h
 · rw [if_neg hn] at h
   exact ⟨by omega,fstR_ok h⟩
def stU:List Int→List (List (Int × Int))→Bool→Bool
 | us,[],al => !al || us.isEmpty
 | [],_::_,_=>false
 | u::us,s::ss,al=>hasB s u && stU us ss al
theorem stU_end (us:List Int) (al:Bool):stU us [] al=(!al || us.isEmpty):=by cases us <;> rfl
theorem stU_none (s:List (Int × Int)) (ss:List (List (Int × Int))) (al:Bool):stU [] (s::ss) al=false:=rfl
theorem stU_cons (u:Int) (us:List Int) (s:List (Int × Int)) (ss:List (List (Int × Int))) (al:Bool):stU (u::us) (s::ss) al=(hasB s u && stU us ss al):=rfl
def fitB (r:Rl) (d l:List Int):Bool:=stU l (r.key++r.post) r.en && stU d.reverse r.ante.reverse r.bg
def fitsB (r:Rl) (d l:List Int):Bool:=decide (chk r=0) && fitB r d l
def fdK (rs:List Rl) (d l:List Int):Nat→Int × Nat
 | 0=>(-1,0)
 | k+1=>match rs[k]? with
  | none=>fdK rs d l k
  | some r=>if (fdK rs d l k).2<r.key.length∧fitB r d l=true then ((k:Int),r.key.length) else fdK rs d l k
def fdF (rs:List Rl) (d l:List Int):Int:=if (allE rs).2=0 then (fdK rs d l rs.length).1 else -1
theorem fdK_succ {rs:List Rl} (d l:List Int) {k:Nat} (hk:k<rs.length):fdK rs d l (k+1)=if (fdK rs d l k).2<rs[k].key.length∧fitB rs[k] d l=true then ((k:Int),rs[k].key.length) else fdK rs d l k:=by
 rw [fdK,List.getElem?_eq_getElem hk]
def Best (rs:List Rl) (d l:List Int) (k:Nat) (b:Int × Nat):Prop:=
 (b=(-1,0)∧∀ (i:Nat) (hi:i<rs.length),i<k→fitB rs[i] d l=false) ∨
 ∃ (j:Nat) (hj:j<rs.length),j<k∧b=((j:Int),rs[j].key.length)∧fitB rs[j] d l=true∧∀ (i:Nat) (hi:i<rs.length),i<k→fitB rs[i] d l=true→rs[i].key.length≤rs[j].key.length∧(rs[i].key.length=rs[j].key.length→j≤i)
theorem fdK_best {rs:List Rl} (d l:List Int) (hO:∀ r∈rs,0<r.key.length):∀ k,k≤rs.length→Best rs d l k (fdK rs d l k)
 | 0,_ => .inl ⟨rfl,fun _ _ h=>by omega⟩
 | k+1,hk=>by
  have hkl:k<rs.length:=hk
  have h0:=hO _ (List.getElem_mem hkl)
  rw [fdK_succ d l hkl]
  rcases fdK_best d l hO k (by omega) with ⟨e,h⟩ | ⟨j,hj,hjk,e,hf,h⟩
  · rw [e]
    by_cases hc:fitB rs[k] d l=true
    · rw [if_pos ⟨h0,hc⟩]
      refine .inr ⟨k,hkl,by omega,rfl,hc,fun i hi hik hfi => ?_⟩
      rcases Nat.lt_or_ge i k with h1 | h1
      · rw [h i hi h1] at hfi;cases hfi
      · obtain rfl:i=k:=by omega
        exact ⟨Nat.le_refl _,fun _=>Nat.le_refl _⟩
    · rw [if_neg (fun h=>hc h.2)]
      refine .inl ⟨rfl,fun i hi hik => ?_⟩
      rcases Nat.lt_or_ge i k with h1 | h1
      · exact h i hi h1
      · obtain rfl:i=k:=by omega
        simpa using hc
  · rw [e]
    by_cases hc:rs[j].key.length<rs[k].key.length∧fitB rs[k] d l=true
    · rw [if_pos hc]
      refine .inr ⟨k,hkl,by omega,rfl,hc.2,fun i hi hik hfi => ?_⟩
      rcases Nat.lt_or_ge i k with h1 | h1
      · have:=h i hi h1 hfi
        have h2:=hc.1
        exact ⟨by omega,fun _=>by omega⟩
      · obtain rfl:i=k:=by omega
        exact ⟨Nat.le_refl _,fun _=>Nat.le_refl _⟩
    · rw [if_neg hc]
      refine .inr ⟨j,hj,by omega,rfl,hf,fun i hi hik hfi => ?_⟩
      rcases Nat.lt_or_ge i k with h1 | h1
      · exact h i hi h1 hfi
      · obtain rfl:i=k:=by omega
        have:¬ rs[j].key.length<rs[i].key.length:=fun h2=>hc ⟨h2,hfi⟩
        exact ⟨by omega,fun _=>by omega⟩
theorem fdF_best {rs:List Rl} (d l:List Int) (h:(allE rs).2=0):∃ m,Best rs d l rs.length (fdF rs d l,m):=by
 have h1:=(allE_chk h).2
 have h2:=fdK_best d l (fun r hr=>(chk_ok (h1 r hr)).k0) rs.length (Nat.le_refl _)
 refine ⟨(fdK rs d l rs.length).2,?_⟩
 unfold fdF
 rw [if_pos h]
 exact h2
structure UnitF (w:World) (U:FuncId) (gv:Value) (us:List Int):Prop where
 sth:∀ (k:Nat) (x:Int),us[k]? = some x→∀ W,Grown w W→Calls Tryz.prog U #[gv,.int .i64 k] W fun e w'=>e = .returned (.tuple #[.int .i64 x,.bool true])∧Grown W w'
 non:∀ k:Nat,us.length≤k→k≤1000→∀ W,Grown w W→Calls Tryz.prog U #[gv,.int .i64 k] W fun e w'=>e = .returned (.tuple #[.int .i64 0,.bool false])∧Grown W w'
structure AskF (w:World) (A:FuncId) (wv:Value) (ss:List (List (Int × Int))):Prop where
 sth:∀ (k:Nat) (s:List (Int × Int)),ss[k]? = some s→∃ sv,Rs w sv s∧∀ W,Grown w W→Calls Tryz.prog A #[wv,.int .i64 k] W fun e w'=>e = .returned (.tuple #[sv,.bool true])∧Grown W w'
 non:∀ k:Nat,ss.length≤k→k≤1000→∀ W,Grown w W→Calls Tryz.prog A #[wv,.int .i64 k] W fun e w'=>e = .returned (.tuple #[.slice none 0 0,.bool false])∧Grown W w'
theorem behindU {w:World} {dv lv:Value} {l:List Int} (hd:IsSl dv) (hl:IR w lv l):UnitF w 155 (.agg #[dv,lv]) l:=by
 obtain ⟨d1,d2,d3,rfl⟩:=hd
 obtain ⟨la,lc,rfl,_,h⟩:=hl
 constructor
 · intro k x hx W hW
   obtain ⟨hk,hx⟩:=List.getElem?_eq_some_iff.1 hx
   obtain ⟨g,o,rfl,hR⟩:=h.resolve_left (fun e=>by rw [e] at hk;simp at hk)
   have hc:=hW.cellv (hR k hk)
   rw [hx] at hc
   have HC:Hid (∀ V,Grown W V→Calls Tryz.prog 164 #[.slice (some ⟨g,o,none⟩) l.length lc,.int .i64 k] V fun e w'=>e = .returned (.tuple #[.int .i64 x,.bool true])∧w'=V):=fun V hV=>nthI_in g o _ lc x k V hk (hV.cellv hc)
   clear hc hR hx h
   go_enter Tryz.func155,Tryz.ntmps155
   go_wp2_with (go_at_call 164;refine (HC.out _ ((Grown.refl _).alloc _)).mono ?_;rintro e w' ⟨rfl,rfl⟩)
   go_ret2
   exact ⟨rfl,(Grown.refl _).alloc _⟩
 · intro k hk hk2 W hW
   have HC:Hid (∀ V,Grown W V→Calls Tryz.prog 164 #[.slice la l.length lc,.int .i64 k] V fun e w'=>e = .returned (.tuple #[.int .i64 0,.bool false])∧w'=V):=fun V hV=>nthI_out la _ lc k V (.inr (by omega))
   clear h
   go_enter Tryz.func155,Tryz.ntmps155
   go_wp2_with (go_at_call 164;refine (HC.out _ ((Grown.refl _).alloc _)).mono ?_;rintro e w' ⟨rfl,rfl⟩)
   go_ret2
   exact ⟨rfl,(Grown.refl _).alloc _⟩
theorem aheadU {w:World} {dv lv:Value} {d:List Int} (hl:IsSl lv) (hd:IR w dv d) (hn:d.length≤9223372036854775807):UnitF w 157 (.agg #[dv,lv]) d.reverse:=by
 obtain ⟨l1,l2,l3,rfl⟩:=hl
 obtain ⟨da,dc,rfl,_,h⟩:=hd
 obtain ⟨n,hN⟩:∃ n,d.length=n:=⟨_,rfl⟩
 have i1:(n:Int)≤9223372036854775807:=by omega
 have i2:(0:Int)≤(n:Int):=by omega
 rw [hN]
 constructor
 · intro k x hx W hW
   obtain ⟨hk,hx⟩:=List.getElem?_eq_some_iff.1 hx
   rw [List.length_reverse] at hk
   rw [List.getElem_reverse] at hx
   obtain ⟨g,o,rfl,hR⟩:=h.resolve_left (fun e=>by rw [e] at hk;simp at hk)
   have hc:=hW.cellv (hR (d.length - 1 - k) (by omega))
   rw [hx,hN] at hc
   have HC:Hid (∀ V,Grown W V→Calls Tryz.prog 164 #[.slice (some ⟨g,o,none⟩) n dc,.int .i64 ((n:Int) - 1 - (k:Int))] V fun e w'=>e = .returned (.tuple #[.int .i64 x,.bool true])∧w'=V):=fun V hV=>by
    rw [show (n:Int) - 1 - (k:Int)=((n - 1 - k:Nat):Int) by omega]
    exact nthI_in g o _ dc x (n - 1 - k) V (by omega) (hV.cellv hc)
   have i3:(k:Int)<(n:Int):=by omega
   have i4:(0:Int)≤(k:Int):=by omega
   clear hc hR hx h hk
   go_enter Tryz.func157,Tryz.ntmps157
   go_wp2_with (go_at_call 164;refine (HC.out _ ((Grown.refl _).alloc _)).mono ?_;rintro e w' ⟨rfl,rfl⟩)
   go_ret2
   exact ⟨rfl,(Grown.refl _).alloc _⟩
 · intro k hk hk2 W hW
   rw [List.length_reverse,hN] at hk
   have HC:Hid (∀ V,Grown W V→Calls Tryz.prog 164 #[.slice da n dc,.int .i64 ((n:Int) - 1 - (k:Int))] V fun e w'=>e = .returned (.tuple #[.int .i64 0,.bool false])∧w'=V):=fun V hV=>nthI_out da _ dc _ V (.inl (by omega))
   have i3:(k:Int)≤1000:=by omega
   have i4:(0:Int)≤(k:Int):=by omega
   clear h hk hk2
   go_enter Tryz.func157,Tryz.ntmps157
   go_wp2_with (go_at_call 164;refine (HC.out _ ((Grown.refl _).alloc _)).mono ?_;rintro e w' ⟨rfl,rfl⟩)
   go_ret2
   exact ⟨rfl,(Grown.refl _).alloc _⟩
theorem srd_at {w:World} {a:Option Addr} {n c:Nat} {ls:List (List (Int × Int))} (h:SR w (.slice a n c) ls) {k:Nat} {s:List (Int × Int)} (hs:ls[k]? = some s):k<n∧∃ g o sv,a=some ⟨g,o,none⟩∧w.cell? ⟨g,o+k,none⟩=some sv∧Rs w sv s:=by
 obtain ⟨hk,hx⟩:=List.getElem?_eq_some_iff.1 hs
 obtain ⟨a',c',e,_,h⟩:=h
 injection e with e1 e2 e3
 subst e1 e2 e3
 obtain ⟨g,o,rfl,hR⟩:=h.resolve_left (fun e=>by rw [e] at hk;simp at hk)
 obtain ⟨sv,h1,h2⟩:=hR k hk
 exact ⟨hk,g,o,sv,rfl,h1,hx ▸ h2⟩
theorem sr_leng {w:World} {a:Option Addr} {n c:Nat} {ls:List (List (Int × Int))} (h:SR w (.slice a n c) ls):n=ls.length:=by
 obtain ⟨a',c',e,_,_⟩:=h
 injection e with e1 e2 e3
theorem behindA {w:World} {bg en:Bool} {cu:Int} {av kv pv rv:Value} {r:Rl} (h:RR w av kv pv rv r) (hO:Ok r):AskF w 156 (.agg #[.bool bg,av,kv,pv,.bool en,rv,.int .i64 cu]) (r.key++r.post):=by
 have hk8:=hO.k8
 have hp8:=hO.p8
 have HK:=Hid.mk' h.k
 have HP:=Hid.mk' h.p
 obtain ⟨a1,a2,a3,rfl⟩:=h.a.sl
 obtain ⟨ka,kn,kc,rfl⟩:=h.k.sl
 obtain ⟨pa,pn,pc,rfl⟩:=h.p.sl
 obtain ⟨r1,r2,r3,rfl⟩:=h.r.sl
 have hkn:=sr_leng h.k
 have hpn:=sr_leng h.p
 rw [←hkn] at hk8
 rw [←hpn] at hp8
 have i1:(kn:Int)≤8:=by omega
 have i2:(pn:Int)≤8:=by omega
 have i3:(0:Int)≤(kn:Int):=by omega
 clear h hO
 constructor
 · intro k s hs
   by_cases hlt:k<kn
   · rw [List.getElem?_append_left (by omega)] at hs
     obtain ⟨_,g,o0,sv,rfl,hc,hR⟩:=srd_at HK.out hs
     refine ⟨sv,hR,fun W hW => ?_⟩
     have hc:=hW.cellv hc
     obtain ⟨s1,s2,s3,rfl⟩:=hR.sl
     have i4:(k:Int)<(kn:Int):=by omega
     have i5:(0:Int)≤(k:Int):=by omega
     have hc2:∀ o,(W.alloc o).cell? ⟨g,o0+k,none⟩=some (.slice s1 s2 s3):=fun o=>cell_up hc o
     clear hR hs hkn hpn
     go_enter Tryz.func156,Tryz.ntmps156
     go_wp2
     go_ret2
     exact ⟨rfl,(Grown.refl _).alloc _⟩
   · rw [List.getElem?_append_right (by omega),←hkn] at hs
     obtain ⟨hlt2,g,o,sv,rfl,hc,hR⟩:=srd_at HP.out hs
     refine ⟨sv,hR,fun W hW => ?_⟩
     have hc:=hW.cellv hc
     obtain ⟨s1,s2,s3,rfl⟩:=hR.sl
     have HC:Hid (∀ V,Grown W V→Calls Tryz.prog 165 #[.slice (some ⟨g,o,none⟩) pn pc,.int .i64 ((k:Int) - (kn:Int))] V fun e w'=>e = .returned (.tuple #[.slice s1 s2 s3,.bool true])∧w'=V):=fun V hV=>by
      rw [show (k:Int) - (kn:Int)=((k - kn:Nat):Int) by omega]
      exact nthS_in g o _ pc s1 s2 s3 (k - kn) V hlt2 (hV.cellv hc)
     have i4:¬ (k:Int)<(kn:Int):=by omega
     have i5:(k:Int)≤1000:=by omega
     clear hR hs hkn hpn hc
     go_enter Tryz.func156,Tryz.ntmps156
     go_wp2_with (go_at_call 165;refine (HC.out _ ((Grown.refl _).alloc _)).mono ?_;rintro e w' ⟨rfl,rfl⟩)
     go_ret2
     exact ⟨rfl,(Grown.refl _).alloc _⟩
 · intro k hk hk2 W hW
   rw [List.length_append,←hkn,←hpn] at hk
   have HC:Hid (∀ V,Grown W V→Calls Tryz.prog 165 #[.slice pa pn pc,.int .i64 ((k:Int) - (kn:Int))] V fun e w'=>e = .returned (.tuple #[.slice none 0 0,.bool false])∧w'=V):=fun V hV=>nthS_out pa _ pc _ V (.inr (by omega))
   have i4:¬ (k:Int)<(kn:Int):=by omega
   have i5:(k:Int)≤1000:=by omega
   clear hkn hpn
   go_enter Tryz.func156,Tryz.ntmps156
   go_wp2_with (go_at_call 165;refine (HC.out _ ((Grown.refl _).alloc _)).mono ?_;rintro e w' ⟨rfl,rfl⟩)
   go_ret2
   exact ⟨rfl,(Grown.refl _).alloc _⟩
theorem aheadA {w:World} {bg en:Bool} {cu:Int} {av kv pv rv:Value} {r:Rl} (h:RR w av kv pv rv r) (hO:Ok r):AskF w 158 (.agg #[.bool bg,av,kv,pv,.bool en,rv,.int .i64 cu]) r.ante.reverse:=by
 have ha8:=hO.a8
 have HA:=Hid.mk' h.a
 obtain ⟨aa,an,ac,rfl⟩:=h.a.sl
 obtain ⟨ka,kn,kc,rfl⟩:=h.k.sl
 obtain ⟨pa,pn,pc,rfl⟩:=h.p.sl
 obtain ⟨r1,r2,r3,rfl⟩:=h.r.sl
 have han:=sr_leng h.a
 rw [←han] at ha8
 have i1:(an:Int)≤8:=by omega
 have i3:(0:Int)≤(an:Int):=by omega
 clear h hO
 constructor
 · intro k s hs
   obtain ⟨hk,hx⟩:=List.getElem?_eq_some_iff.1 hs
   rw [List.length_reverse] at hk
   rw [List.getElem_reverse] at hx
   have hs:r.ante[an - 1 - k]? = some s:=by rw [han,List.getElem?_eq_getElem (by omega),hx]
   obtain ⟨hlt2,g,o,sv,rfl,hc,hR⟩:=srd_at HA.out hs
   refine ⟨sv,hR,fun W hW => ?_⟩
   have hc:=hW.cellv hc
   obtain ⟨s1,s2,s3,rfl⟩:=hR.sl
   have HC:Hid (∀ V,Grown W V→Calls Tryz.prog 165 #[.slice (some ⟨g,o,none⟩) an ac,.int .i64 ((an:Int) - 1 - (k:Int))] V fun e w'=>e = .returned (.tuple #[.slice s1 s2 s3,.bool true])∧w'=V):=fun V hV=>by
    rw [show (an:Int) - 1 - (k:Int)=((an - 1 - k:Nat):Int) by omega]
    exact nthS_in g o _ ac s1 s2 s3 (an - 1 - k) V hlt2 (hV.cellv hc)
   have i4:(k:Int)<(an:Int):=by omega
   have i5:(0:Int)≤(k:Int):=by omega
   clear hR hs han hc hx hk
   go_enter Tryz.func158,Tryz.ntmps158
   go_wp2_with (go_at_call 165;refine (HC.out _ ((Grown.refl _).alloc _)).mono ?_;rintro e w' ⟨rfl,rfl⟩)
   go_ret2
   exact ⟨rfl,(Grown.refl _).alloc _⟩
 · intro k hk hk2 W hW
   rw [List.length_reverse,←han] at hk
   have HC:Hid (∀ V,Grown W V→Calls Tryz.prog 165 #[.slice aa an ac,.int .i64 ((an:Int) - 1 - (k:Int))] V fun e w'=>e = .returned (.tuple #[.slice none 0 0,.bool false])∧w'=V):=fun V hV=>nthS_out aa _ ac _ V (.inl (by omega))
   have i4:(k:Int)≤1000:=by omega
   have i5:(0:Int)≤(k:Int):=by omega
   clear han hk hk2
   go_enter Tryz.func158,Tryz.ntmps158
   go_wp2_with (go_at_call 165;refine (HC.out _ ((Grown.refl _).alloc _)).mono ?_;rintro e w' ⟨rfl,rfl⟩)
   go_ret2
   exact ⟨rfl,(Grown.refl _).alloc _⟩
set_option maxHeartbeats 4000000 in
theorem standsB_any (gv wv:Value) (us:List Int) (ss:List (List (Int × Int))) (al:Bool) (w:World) (hT:Tab w) (hU:UnitF w 155 gv us) (hA:AskF w 156 wv ss) (hn:ss.length≤100) :
 Calls Tryz.prog 154 #[.func (.func 155) #[gv] #[],.func (.func 156) #[wv] #[],.bool al] w fun e w'=>e = .returned (.bool (stU us ss al))∧Grown w w':=by
 have HU:=Hid.mk' hU
 have HA:=Hid.mk' hA
 have HT:=Hid.mk' hT
 clear hU hA hT
 obtain ⟨R,hR⟩:∃ R,stU us ss al=R:=⟨_,rfl⟩
 have HR:Hid (stU us ss al=R):=hR
 rw [hR]
 obtain ⟨n,hN⟩:∃ n,ss.length=n:=⟨_,rfl⟩
 have HN:Hid (ss.length=n):=hN
 rw [hN] at hn
 have hnI:(n:Int)≤100:=by omega
 clear hR hN
 go_enter Tryz.func154,Tryz.ntmps154
 go_wp2
 go_loopw [7] (fun vi wr=>∃ k:Nat,vi = .int .i64 k∧k≤n∧Hid (stU (us.drop k) (ss.drop k) al=R)∧Grown w wr) (fun vi _=>n - (intOf vi).toNat)
 case atStart=>exact ⟨0,rfl,by omega,by simpa using HR,Grown.refl _⟩
 case round=>
  obtain ⟨k,rfl,hk,HQ,hG⟩:=hrel
  have hkI:(k:Int)≤100:=by omega
  have hk0:(0:Int)≤(k:Int):=by omega
  by_cases hlt:k<n
  · have hkl:k<ss.length:=by rw [HN.out];exact hlt
    obtain ⟨sv,hsv,hC⟩:=HA.out.sth k ss[k] (List.getElem?_eq_getElem hkl)
    have HS:=Hid.mk' hsv
    have HC:=Hid.mk' hC
    obtain ⟨s1,s2,s3,rfl⟩:=hsv.sl
    have hQ:=HQ.out
    rw [List.drop_eq_getElem_cons hkl] at hQ
    clear hsv hC HQ
    by_cases hu:k<us.length
    · have HD:Hid (∀ W,Grown wr W→Calls Tryz.prog 155 #[gv,.int .i64 k] W fun e w'=>e = .returned (.tuple #[.int .i64 us[k],.bool true])∧Grown W w'):=fun W hW=>HU.out.sth k us[k] (List.getElem?_eq_getElem hu) W (hG.trans hW)
      rw [List.drop_eq_getElem_cons hu,stU_cons] at hQ
      have HB:Hid (∀ W,Grown wr W→Calls Tryz.prog 15 #[.slice s1 s2 s3,.int .i64 us[k]] W fun e w'=>e = .returned (.bool (hasB ss[k] us[k]))∧Grown W w'):=fun W hW=>has_any _ ss[k] us[k] W (HT.out.grown (hG.trans hW)) (HS.out.grown (hG.trans hW))
      generalize us[k]=u at HD HB hQ
      cases hb:hasB ss[k] u with
      | true=>
       as_aux_lemma=>
        rw [hb,Bool.true_and] at hQ
        have HQ2:Hid (stU (us.drop (k+1)) (ss.drop (k+1)) al=R):=hQ
        rw [hb] at HB
        clear hQ hb hu HS hkl
        go_wp2_with (go_at_call 155;refine (HD.out _ (Grown.refl _)).mono ?_;rintro e w1 ⟨rfl,hg1⟩)
        go_wp2_with (go_at_call 156;refine (HC.out _ (hG.trans hg1)).mono ?_;rintro e w2 ⟨rfl,hg2⟩)
        go_wp2_with (go_at_call 15;refine (HB.out _ (hg1.trans hg2)).mono ?_;rintro e w3 ⟨rfl,hg3⟩)
        exact ⟨⟨k+1,by go_num,by omega,HQ2,((hG.trans hg1).trans hg2).trans hg3⟩,by simp [intOf];omega⟩
      | false=>
       as_aux_lemma=>
        rw [hb,Bool.false_and] at hQ
        rw [hb] at HB
        have HQ2:=Hid.mk' hQ
        clear hQ hb hu HS hkl
        go_wp2_with (go_at_call 155;refine (HD.out _ (Grown.refl _)).mono ?_;rintro e w1 ⟨rfl,hg1⟩)
        go_wp2_with (go_at_call 156;refine (HC.out _ (hG.trans hg1)).mono ?_;rintro e w2 ⟨rfl,hg2⟩)
        go_wp2_with (go_at_call 15;refine (HB.out _ (hg1.trans hg2)).mono ?_;rintro e w3 ⟨rfl,hg3⟩)
        go_ret
        exact ⟨by rw [←HQ2.out];rfl,((hG.trans hg1).trans hg2).trans hg3⟩
    · as_aux_lemma=>
       have HD:Hid (∀ W,Grown wr W→Calls Tryz.prog 155 #[gv,.int .i64 k] W fun e w'=>e = .returned (.tuple #[.int .i64 0,.bool false])∧Grown W w'):=fun W hW=>HU.out.non k (by omega) (by omega) W (hG.trans hW)
       rw [List.drop_eq_nil_of_le (by omega),stU_none] at hQ
       have HQ2:=Hid.mk' hQ
       clear hQ hu HS hkl
       go_wp2_with (go_at_call 155;refine (HD.out _ (Grown.refl _)).mono ?_;rintro e w1 ⟨rfl,hg1⟩)
       go_wp2_with (go_at_call 156;refine (HC.out _ (hG.trans hg1)).mono ?_;rintro e w2 ⟨rfl,hg2⟩)
       go_ret
       exact ⟨by rw [←HQ2.out];rfl,(hG.trans hg1).trans hg2⟩
  · have hkn:ss.length≤k:=by rw [HN.out];omega
    have hQ:=HQ.out
    rw [List.drop_eq_nil_of_le hkn,stU_end] at hQ
    have HC:=Hid.mk' (HA.out.non k hkn (by omega))
    clear HQ hkn
    by_cases hu:k<us.length
    · as_aux_lemma=>
       have HD:Hid (∀ W,Grown wr W→Calls Tryz.prog 155 #[gv,.int .i64 k] W fun e w'=>e = .returned (.tuple #[.int .i64 us[k],.bool true])∧Grown W w'):=fun W hW=>HU.out.sth k us[k] (List.getElem?_eq_getElem hu) W (hG.trans hW)
       rw [List.drop_eq_getElem_cons hu] at hQ
       have hQ2:(!al)=R:=by rw [←hQ];cases al <;> rfl
       generalize us[k]=u at HD
       have HQ2:=Hid.mk' hQ2
       clear hQ hu hQ2
       cases al with
       | true=>
        go_wp2_with (go_at_call 155;refine (HD.out _ (Grown.refl _)).mono ?_;rintro e w1 ⟨rfl,hg1⟩)
        go_wp2_with (go_at_call 156;refine (HC.out _ (hG.trans hg1)).mono ?_;rintro e w2 ⟨rfl,hg2⟩)
        go_ret
        exact ⟨by rw [←HQ2.out];rfl,(hG.trans hg1).trans hg2⟩
       | false=>
        go_wp2_with (go_at_call 155;refine (HD.out _ (Grown.refl _)).mono ?_;rintro e w1 ⟨rfl,hg1⟩)
        go_wp2_with (go_at_call 156;refine (HC.out _ (hG.trans hg1)).mono ?_;rintro e w2 ⟨rfl,hg2⟩)
        go_ret
        exact ⟨by rw [←HQ2.out];rfl,(hG.trans hg1).trans hg2⟩
    · as_aux_lemma=>
       have HD:Hid (∀ W,Grown wr W→Calls Tryz.prog 155 #[gv,.int .i64 k] W fun e w'=>e = .returned (.tuple #[.int .i64 0,.bool false])∧Grown W w'):=fun W hW=>HU.out.non k (by omega) (by omega) W (hG.trans hW)
       rw [List.drop_eq_nil_of_le (by omega)] at hQ
       have hQ2:true=R:=by rw [←hQ];cases al <;> rfl
       have HQ2:=Hid.mk' hQ2
       clear hQ hu hQ2
       cases al with
       | true=>
        go_wp2_with (go_at_call 155;refine (HD.out _ (Grown.refl _)).mono ?_;rintro e w1 ⟨rfl,hg1⟩)
        go_wp2_with (go_at_call 156;refine (HC.out _ (hG.trans hg1)).mono ?_;rintro e w2 ⟨rfl,hg2⟩)
        go_ret
        exact ⟨by rw [←HQ2.out];rfl,(hG.trans hg1).trans hg2⟩
       | false=>
        go_wp2_with (go_at_call 155;refine (HD.out _ (Grown.refl _)).mono ?_;rintro e w1 ⟨rfl,hg1⟩)
        go_wp2_with (go_at_call 156;refine (HC.out _ (hG.trans hg1)).mono ?_;rintro e w2 ⟨rfl,hg2⟩)
        go_ret
        exact ⟨by rw [←HQ2.out];rfl,(hG.trans hg1).trans hg2⟩
set_option maxHeartbeats 4000000 in
theorem standsA_any (gv wv:Value) (us:List Int) (ss:List (List (Int × Int))) (al:Bool) (w:World) (hT:Tab w) (hU:UnitF w 157 gv us) (hA:AskF w 158 wv ss) (hn:ss.length≤100) :
 Calls Tryz.prog 154 #[.func (.func 157) #[gv] #[],.func (.func 158) #[wv] #[],.bool al] w fun e w'=>e = .returned (.bool (stU us ss al))∧Grown w w':=by
 have HU:=Hid.mk' hU
 have HA:=Hid.mk' hA
 have HT:=Hid.mk' hT
 clear hU hA hT
 obtain ⟨R,hR⟩:∃ R,stU us ss al=R:=⟨_,rfl⟩
 have HR:Hid (stU us ss al=R):=hR
 rw [hR]
 obtain ⟨n,hN⟩:∃ n,ss.length=n:=⟨_,rfl⟩
 have HN:Hid (ss.length=n):=hN
 rw [hN] at hn
 have hnI:(n:Int)≤100:=by omega
 clear hR hN
 go_enter Tryz.func154,Tryz.ntmps154
 go_wp2
 go_loopw [7] (fun vi wr=>∃ k:Nat,vi = .int .i64 k∧k≤n∧Hid (stU (us.drop k) (ss.drop k) al=R)∧Grown w wr) (fun vi _=>n - (intOf vi).toNat)
 case atStart=>exact ⟨0,rfl,by omega,by simpa using HR,Grown.refl _⟩
 case round=>
  obtain ⟨k,rfl,hk,HQ,hG⟩:=hrel
  have hkI:(k:Int)≤100:=by omega
  have hk0:(0:Int)≤(k:Int):=by omega
  by_cases hlt:k<n
  · have hkl:k<ss.length:=by rw [HN.out];exact hlt
    obtain ⟨sv,hsv,hC⟩:=HA.out.sth k ss[k] (List.getElem?_eq_getElem hkl)
    have HS:=Hid.mk' hsv
    have HC:=Hid.mk' hC
    obtain ⟨s1,s2,s3,rfl⟩:=hsv.sl
    have hQ:=HQ.out
    rw [List.drop_eq_getElem_cons hkl] at hQ
    clear hsv hC HQ
    by_cases hu:k<us.length
    · have HD:Hid (∀ W,Grown wr W→Calls Tryz.prog 157 #[gv,.int .i64 k] W fun e w'=>e = .returned (.tuple #[.int .i64 us[k],.bool true])∧Grown W w'):=fun W hW=>HU.out.sth k us[k] (List.getElem?_eq_getElem hu) W (hG.trans hW)
      rw [List.drop_eq_getElem_cons hu,stU_cons] at hQ
      have HB:Hid (∀ W,Grown wr W→Calls Tryz.prog 15 #[.slice s1 s2 s3,.int .i64 us[k]] W fun e w'=>e = .returned (.bool (hasB ss[k] us[k]))∧Grown W w'):=fun W hW=>has_any _ ss[k] us[k] W (HT.out.grown (hG.trans hW)) (HS.out.grown (hG.trans hW))
      generalize us[k]=u at HD HB hQ
      cases hb:hasB ss[k] u with
      | true=>
       as_aux_lemma=>
        rw [hb,Bool.true_and] at hQ
        have HQ2:Hid (stU (us.drop (k+1)) (ss.drop (k+1)) al=R):=hQ
        rw [hb] at HB
        clear hQ hb hu HS hkl
        go_wp2_with (go_at_call 157;refine (HD.out _ (Grown.refl _)).mono ?_;rintro e w1 ⟨rfl,hg1⟩)
        go_wp2_with (go_at_call 158;refine (HC.out _ (hG.trans hg1)).mono ?_;rintro e w2 ⟨rfl,hg2⟩)
        go_wp2_with (go_at_call 15;refine (HB.out _ (hg1.trans hg2)).mono ?_;rintro e w3 ⟨rfl,hg3⟩)
        exact ⟨⟨k+1,by go_num,by omega,HQ2,((hG.trans hg1).trans hg2).trans hg3⟩,by simp [intOf];omega⟩
      | false=>
       as_aux_lemma=>
        rw [hb,Bool.false_and] at hQ
        rw [hb] at HB
        have HQ2:=Hid.mk' hQ
        clear hQ hb hu HS hkl
        go_wp2_with (go_at_call 157;refine (HD.out _ (Grown.refl _)).mono ?_;rintro e w1 ⟨rfl,hg1⟩)
        go_wp2_with (go_at_call 158;refine (HC.out _ (hG.trans hg1)).mono ?_;rintro e w2 ⟨rfl,hg2⟩)
        go_wp2_with (go_at_call 15;refine (HB.out _ (hg1.trans hg2)).mono ?_;rintro e w3 ⟨rfl,hg3⟩)
        go_ret
        exact ⟨by rw [←HQ2.out];rfl,((hG.trans hg1).trans hg2).trans hg3⟩
    · as_aux_lemma=>
       have HD:Hid (∀ W,Grown wr W→Calls Tryz.prog 157 #[gv,.int .i64 k] W fun e w'=>e = .returned (.tuple #[.int .i64 0,.bool false])∧Grown W w'):=fun W hW=>HU.out.non k (by omega) (by omega) W (hG.trans hW)
       rw [List.drop_eq_nil_of_le (by omega),stU_none] at hQ
       have HQ2:=Hid.mk' hQ
       clear hQ hu HS hkl
       go_wp2_with (go_at_call 157;refine (HD.out _ (Grown.refl _)).mono ?_;rintro e w1 ⟨rfl,hg1⟩)
       go_wp2_with (go_at_call 158;refine (HC.out _ (hG.trans hg1)).mono ?_;rintro e w2 ⟨rfl,hg2⟩)
       go_ret
       exact ⟨by rw [←HQ2.out];rfl,(hG.trans hg1).trans hg2⟩
  · have hkn:ss.length≤k:=by rw [HN.out];omega
    have hQ:=HQ.out
    rw [List.drop_eq_nil_of_le hkn,stU_end] at hQ
    have HC:=Hid.mk' (HA.out.non k hkn (by omega))
    clear HQ hkn
    by_cases hu:k<us.length
    · as_aux_lemma=>
       have HD:Hid (∀ W,Grown wr W→Calls Tryz.prog 157 #[gv,.int .i64 k] W fun e w'=>e = .returned (.tuple #[.int .i64 us[k],.bool true])∧Grown W w'):=fun W hW=>HU.out.sth k us[k] (List.getElem?_eq_getElem hu) W (hG.trans hW)
       rw [List.drop_eq_getElem_cons hu] at hQ
       have hQ2:(!al)=R:=by rw [←hQ];cases al <;> rfl
       generalize us[k]=u at HD
       have HQ2:=Hid.mk' hQ2
       clear hQ hu hQ2
       cases al with
       | true=>
        go_wp2_with (go_at_call 157;refine (HD.out _ (Grown.refl _)).mono ?_;rintro e w1 ⟨rfl,hg1⟩)
        go_wp2_with (go_at_call 158;refine (HC.out _ (hG.trans hg1)).mono ?_;rintro e w2 ⟨rfl,hg2⟩)
        go_ret
        exact ⟨by rw [←HQ2.out];rfl,(hG.trans hg1).trans hg2⟩
       | false=>
        go_wp2_with (go_at_call 157;refine (HD.out _ (Grown.refl _)).mono ?_;rintro e w1 ⟨rfl,hg1⟩)
        go_wp2_with (go_at_call 158;refine (HC.out _ (hG.trans hg1)).mono ?_;rintro e w2 ⟨rfl,hg2⟩)
        go_ret
        exact ⟨by rw [←HQ2.out];rfl,(hG.trans hg1).trans hg2⟩
    · as_aux_lemma=>
       have HD:Hid (∀ W,Grown wr W→Calls Tryz.prog 157 #[gv,.int .i64 k] W fun e w'=>e = .returned (.tuple #[.int .i64 0,.bool false])∧Grown W w'):=fun W hW=>HU.out.non k (by omega) (by omega) W (hG.trans hW)
       rw [List.drop_eq_nil_of_le (by omega)] at hQ
       have hQ2:true=R:=by rw [←hQ];cases al <;> rfl
       have HQ2:=Hid.mk' hQ2
       clear hQ hu hQ2
       cases al with
       | true=>
        go_wp2_with (go_at_call 157;refine (HD.out _ (Grown.refl _)).mono ?_;rintro e w1 ⟨rfl,hg1⟩)
        go_wp2_with (go_at_call 158;refine (HC.out _ (hG.trans hg1)).mono ?_;rintro e w2 ⟨rfl,hg2⟩)
        go_ret
        exact ⟨by rw [←HQ2.out];rfl,(hG.trans hg1).trans hg2⟩
       | false=>
        go_wp2_with (go_at_call 157;refine (HD.out _ (Grown.refl _)).mono ?_;rintro e w1 ⟨rfl,hg1⟩)
        go_wp2_with (go_at_call 158;refine (HC.out _ (hG.trans hg1)).mono ?_;rintro e w2 ⟨rfl,hg2⟩)
        go_ret
        exact ⟨by rw [←HQ2.out];rfl,(hG.trans hg1).trans hg2⟩
theorem size_up (W:World) (o:Obj):(W.alloc o).heap.size=W.heap.size+1:=Array.size_push _
theorem cell_fst {W:World} {cs:Array Value} {t:TypeId} {j:Nat} {v:Value} (h:cs[j]? = some v):(W.alloc (.cells cs t)).cell? ⟨W.heap.size,j,none⟩=some v:=(cell_of (heap_alloc_new _ _)).trans h
theorem cell_snd {W:World} {o:Obj} {cs:Array Value} {t:TypeId} {j:Nat} {v:Value} (h:cs[j]? = some v):((W.alloc o).alloc (.cells cs t)).cell? ⟨W.heap.size+1,j,none⟩=some v:=by
 rw [←size_up W o];exact cell_fst h
theorem cell_trd {W:World} {o o':Obj} {cs:Array Value} {t:TypeId} {j:Nat} {v:Value} (h:cs[j]? = some v):(((W.alloc o).alloc o').alloc (.cells cs t)).cell? ⟨W.heap.size+1+1,j,none⟩=some v:=by
 rw [←size_up W o,←size_up (W.alloc o) o'];exact cell_fst h
set_option maxHeartbeats 4000000 in
theorem fit_any (r:Rl) (av kv pv rv dv lv:Value) (d l:List Int) (w:World) (hT:Tab w) (h:RR w av kv pv rv r) (hO:Ok r) (hd:IR w dv d) (hl:IR w lv l) (hdn:d.length≤9223372036854775807) :
 Calls Tryz.prog 140 #[.agg #[dv,lv],.agg #[.bool r.bg,av,kv,pv,.bool r.en,rv,.int .i64 r.cu]] w fun e w'=>e = .returned (.bool (fitB r d l))∧Grown w w':=by
 have hmf:∀ (fn:Fn) (first cap:Array Value) (w:World),(Instr.makeFunc fn first cap).run Tryz.prog w = .ok (.func fn first cap) w:=fun _ _ _ _=>rfl
 have HB:Hid (∀ V,Grown w V→Calls Tryz.prog 154 #[.func (.func 155) #[.agg #[dv,lv]] #[],.func (.func 156) #[.agg #[.bool r.bg,av,kv,pv,.bool r.en,rv,.int .i64 r.cu]] #[],.bool r.en] V fun e w'=>e = .returned (.bool (stU l (r.key++r.post) r.en))∧Grown V w'):=fun V hg=>
  standsB_any _ _ l (r.key++r.post) r.en V (hT.grown hg) (behindU hd.sl (hl.grown hg)) (behindA (h.grown hg) hO) (by have:=hO.k8;have:=hO.p8;rw [List.length_append];omega)
 have HA:Hid (∀ V,Grown w V→Calls Tryz.prog 154 #[.func (.func 157) #[.agg #[dv,lv]] #[],.func (.func 158) #[.agg #[.bool r.bg,av,kv,pv,.bool r.en,rv,.int .i64 r.cu]] #[],.bool r.bg] V fun e w'=>e = .returned (.bool (stU d.reverse r.ante.reverse r.bg))∧Grown V w'):=fun V hg=>
  standsA_any _ _ d.reverse r.ante.reverse r.bg V (hT.grown hg) (aheadU hl.sl (hd.grown hg) hdn) (aheadA (h.grown hg) hO) (by have:=hO.a8;rw [List.length_reverse];omega)
 obtain ⟨d1,d2,d3,rfl⟩:=hd.sl
 obtain ⟨l1,l2,l3,rfl⟩:=hl.sl
 obtain ⟨a1,a2,a3,rfl⟩:=h.a.sl
 obtain ⟨k1,k2,k3,rfl⟩:=h.k.sl
 obtain ⟨p1,p2,p3,rfl⟩:=h.p.sl
 obtain ⟨r1,r2,r3,rfl⟩:=h.r.sl
 unfold fitB
 obtain ⟨B1,hB1⟩:∃ B1,stU l (r.key++r.post) r.en=B1:=⟨_,rfl⟩
 obtain ⟨B2,hB2⟩:∃ B2,stU d.reverse r.ante.reverse r.bg=B2:=⟨_,rfl⟩
 rw [hB1] at HB ⊢
 rw [hB2] at HA ⊢
 clear hB1 hB2 hd hl h hO hT hdn
 generalize r.bg=xb at HA HB ⊢
 generalize r.en=xe at HA HB ⊢
 generalize r.cu=xc at HA HB ⊢
 cases B1 with
 | false=>
  go_enter Tryz.func140,Tryz.ntmps140
  go_wp2_with (go_at_call 154;refine (HB.out _ ((((Grown.refl _).alloc _).alloc _).alloc _)).mono ?_;rintro e w1 ⟨rfl,hg1⟩)
  go_ret
  exact ⟨rfl,((((Grown.refl _).alloc _).alloc _).alloc _).trans hg1⟩
 | true=>
  have HG:Hid (∀ o1 o2 o3 W,Grown (((w.alloc o1).alloc o2).alloc o3) W→Grown w W):=fun o1 o2 o3 W hW=>((((Grown.refl _).alloc _).alloc _).alloc _).trans hW
  go_enter Tryz.func140,Tryz.ntmps140
  go_wp2_with fail
  refine (HB.out _ ((((Grown.refl _).alloc _).alloc _).alloc _)).mono ?_
  rintro e w1 ⟨rfl,hg1⟩
  have c0:=hg1.cellv (a:=⟨w.heap.size,0,none⟩) (v := .slice d1 d2 d3) (cell_up (cell_up (cell_fst rfl) _) _)
  have c1:=hg1.cellv (a:=⟨w.heap.size,1,none⟩) (v := .slice l1 l2 l3) (cell_up (cell_up (cell_fst rfl) _) _)
  have c2:=hg1.cellv (a:=⟨w.heap.size+1,0,none⟩) (v := .bool xb) (cell_up (cell_snd rfl) _)
  have q0:=hg1.cellv (a:=⟨w.heap.size+1+1,0,none⟩) (v := .bool xb) (cell_trd rfl)
  have q1:=hg1.cellv (a:=⟨w.heap.size+1+1,1,none⟩) (v := .slice a1 a2 a3) (cell_trd rfl)
  have q2:=hg1.cellv (a:=⟨w.heap.size+1+1,2,none⟩) (v := .slice k1 k2 k3) (cell_trd rfl)
  have q3:=hg1.cellv (a:=⟨w.heap.size+1+1,3,none⟩) (v := .slice p1 p2 p3) (cell_trd rfl)
  have q4:=hg1.cellv (a:=⟨w.heap.size+1+1,4,none⟩) (v := .bool xe) (cell_trd rfl)
  have q5:=hg1.cellv (a:=⟨w.heap.size+1+1,5,none⟩) (v := .slice r1 r2 r3) (cell_trd rfl)
  have q6:=hg1.cellv (a:=⟨w.heap.size+1+1,6,none⟩) (v := .int .i64 xc) (cell_trd rfl)
  have HG1:=Hid.mk' (HG.out _ _ _ _ hg1)
  clear hg1 HG
  go_wp2_with (go_at_call 154;refine (HA.out _ HG1.out).mono ?_;rintro e w2 ⟨rfl,hg2⟩)
  go_ret
  exact ⟨rfl,HG1.out.trans hg2⟩
set_option maxHeartbeats 4000000 in
theorem fits_any (r:Rl) (av kv pv rv dv lv:Value) (d l:List Int) (w:World) (hT:Tab w) (h:RR w av kv pv rv r) (hd:IR w dv d) (hl:IR w lv l) (hdn:d.length≤9223372036854775807) :
 Calls Tryz.prog 114 #[.agg #[.bool r.bg,av,kv,pv,.bool r.en,rv,.int .i64 r.cu],dv,lv] w fun e w'=>e = .returned (.bool (fitsB r d l))∧Grown w w':=by
 have HC:Hid (∀ V,Grown w V→Calls Tryz.prog 98 #[.agg #[.bool r.bg,av,kv,pv,.bool r.en,rv,.int .i64 r.cu]] V fun e w'=>e = .returned (.int .i64 (chk r))∧Grown V w'):=fun V hg=>check_any r av kv pv rv V (hT.grown hg) (h.grown hg)
 have HF:Hid (∀ V,Grown w V→chk r=0→Calls Tryz.prog 140 #[.agg #[dv,lv],.agg #[.bool r.bg,av,kv,pv,.bool r.en,rv,.int .i64 r.cu]] V fun e w'=>e = .returned (.bool (fitB r d l))∧Grown V w'):=fun V hg h0=>fit_any r av kv pv rv dv lv d l V (hT.grown hg) (h.grown hg) (chk_ok h0) (hd.grown hg) (hl.grown hg) hdn
 obtain ⟨d1,d2,d3,rfl⟩:=hd.sl
 obtain ⟨l1,l2,l3,rfl⟩:=hl.sl
 obtain ⟨a1,a2,a3,rfl⟩:=h.a.sl
 obtain ⟨k1,k2,k3,rfl⟩:=h.k.sl
 obtain ⟨p1,p2,p3,rfl⟩:=h.p.sl
 obtain ⟨r1,r2,r3,rfl⟩:=h.r.sl
 unfold fitsB
 obtain ⟨c,hc⟩:∃ c,chk r=c:=⟨_,rfl⟩
 obtain ⟨B,hB⟩:∃ B,fitB r d l=B:=⟨_,rfl⟩
 rw [hc] at HC HF ⊢
 rw [hB] at HF ⊢
 clear hc hB hd hl h hT hdn
 generalize r.bg=xb at HC HF ⊢
 generalize r.en=xe at HC HF ⊢
 generalize r.cu=xc at HC HF ⊢
 by_cases h0:c=0
 · subst h0
   have HX:Hid (∀ o W,Grown (w.alloc o) W→Grown w W):=fun o W hW=>((Grown.refl _).alloc _).trans hW
   go_enter Tryz.func114,Tryz.ntmps114
   go_wp2_with fail
   refine (HC.out _ ((Grown.refl _).alloc _)).mono ?_
   rintro e w1 ⟨rfl,hg1⟩
   have q0:=hg1.cellv (a:=⟨w.heap.size,0,none⟩) (v := .bool xb) (cell_fst rfl)
   have q1:=hg1.cellv (a:=⟨w.heap.size,1,none⟩) (v := .slice a1 a2 a3) (cell_fst rfl)
   have q2:=hg1.cellv (a:=⟨w.heap.size,2,none⟩) (v := .slice k1 k2 k3) (cell_fst rfl)
   have q3:=hg1.cellv (a:=⟨w.heap.size,3,none⟩) (v := .slice p1 p2 p3) (cell_fst rfl)
   have q4:=hg1.cellv (a:=⟨w.heap.size,4,none⟩) (v := .bool xe) (cell_fst rfl)
   have q5:=hg1.cellv (a:=⟨w.heap.size,5,none⟩) (v := .slice r1 r2 r3) (cell_fst rfl)
   have q6:=hg1.cellv (a:=⟨w.heap.size,6,none⟩) (v := .int .i64 xc) (cell_fst rfl)
   have HG:Hid (Grown w w1):=HX.out _ _ hg1
   clear hg1 HC HX
   go_wp2_with (go_at_call 140;refine (HF.out _ HG.out (by trivial)).mono ?_;rintro e w2 ⟨rfl,hg2⟩)
   go_ret
   exact ⟨by simp,HG.out.trans hg2⟩
 · have hf:(c == 0)=false:=by simpa using h0
   have hd:decide (c=0)=false:=by simpa using h0
   rw [hd,Bool.false_and]
   clear hd HF
   go_enter Tryz.func114,Tryz.ntmps114
   go_wp2_with (go_at_call 98;refine (HC.out _ ((Grown.refl _).alloc _)).mono ?_;rintro e w1 ⟨rfl,hg1⟩)
   go_ret
   exact ⟨rfl,((Grown.refl _).alloc _).trans hg1⟩
def key1 (r:Rl):Rl:=⟨false,false,0,[],r.key.take 1,[],[]⟩
def begF (rs:List Rl) (u n:Int):Bool:=match rs[n.toNat]? with | some r=>fitsB (key1 r) [] [u] | none=>false
def begL (rs:List Rl) (u:Int) (d:List Int):List Int:=d.filter (begF rs u)
theorem begL_snoc (rs:List Rl) (u:Int) (d:List Int) {k:Nat} (hk:k<d.length):begL rs u (d.take (k+1))=if begF rs u d[k]=true then begL rs u (d.take k)++[d[k]] else begL rs u (d.take k):=by
 unfold begL
 rw [List.take_succ_eq_append_getElem hk,List.filter_append]
 by_cases h:begF rs u d[k]=true
 · rw [if_pos h];simp [h]
 · rw [if_neg h];simp [h]
theorem sr_nil (w:World):SR w (.slice none 0 0) []:=⟨none,0,rfl,Nat.le_refl _,.inl rfl⟩
theorem psr_key1 {w:World} {a:Option Addr} {n c:Nat} {rs:List Rl} (h:PsR w (.slice a n c) rs) {j:Nat} (hj:j<rs.length) (hk:0<rs[j].key.length):∃ g o kg ko kc,a=some ⟨g,o,none⟩∧w.cell? ⟨g,o+j*7+2,none⟩=some (.slice (some ⟨kg,ko,none⟩) rs[j].key.length kc)∧rs[j].key.length≤kc∧RR w (.slice none 0 0) (.slice (some ⟨kg,ko,none⟩) 1 kc) (.slice none 0 0) (.slice none 0 0) (key1 rs[j]):=by
 obtain ⟨a',c',e,_,h⟩:=h
 injection e with e1 _ _
 subst e1
 obtain ⟨g,o,e,h⟩:=h.resolve_left fun e=>by rw [e] at hj;simp at hj
 obtain ⟨av,kv,pv,rv,_,_,q2,_,_,_,_,hR⟩:=h j hj
 obtain ⟨ka,kc,hkv,hkc,h4⟩:=hR.k
 obtain ⟨kg,ko,e4,hd⟩:=h4.resolve_left fun e=>by rw [e] at hk;simp at hk
 subst e4
 rw [hkv] at q2
 refine ⟨g,o,kg,ko,kc,e,q2,hkc,sr_nil w,⟨_,kc,?_,?_,.inr ⟨kg,ko,rfl,fun i hi => ?_⟩⟩,sr_nil w,⟨none,0,rfl,Nat.le_refl _,.inl rfl⟩⟩
 · show _=Value.slice _ (rs[j].key.take 1).length kc
   rw [List.length_take,Nat.min_eq_left (by omega)]
 · show (rs[j].key.take 1).length≤kc
   rw [List.length_take];omega
 · have hi':i<(rs[j].key.take 1).length:=hi
   rw [List.length_take] at hi'
   have:=hd i (by omega)
   rw [show (key1 rs[j]).key[i]=rs[j].key[i]'(by omega) from List.getElem_take]
   exact this
theorem ir_one (w:World) (u:Int) (b:Nat) (hb:w.heap.size=b):IR (w.alloc (.cells #[.int .i64 u] 3)) (.slice (some ⟨b,0,none⟩) 1 1) [u]:=by
 refine ⟨_,1,rfl,Nat.le_refl _,.inr ⟨b,0,rfl,fun j hj => ?_⟩⟩
 obtain rfl:j=0:=by simp at hj;omega
 rw [cell_of (new_blk hb)]
 rfl
def BgQ (w:World) (mb N:Nat) (rs:List Rl) (u:Int) (d:List Int) (f:Int→Option Value) (e:Ending) (w':World):Prop:=∃ bv,e = .returned bv∧OwnI w' w.heap.size bv (begL rs u d)∧IMap w' mb (N+1) (updM f u bv)∧Fr w w' fun k=>k=mb
set_option maxHeartbeats 8000000 in
theorem beg_new {w:World} {wb mb:Nat} {v lv dv uv:Value} {room N:Nat} {rs:List Rl} {d:List Int} {f:Int→Option Value} (hT:Tab w) (h:WKB w wb v lv (.map (some mb)) dv uv room) (hm:IMap w mb N f) (hN:N<1000000000) (hP:PsR w v rs) (hk0:∀ r∈rs,0<r.key.length∧r.key.length≤1000000) (hd:IR w lv d) (hdn:d.length≤1000000) (hdr:∀ x∈d,0≤x∧x<rs.length) (u:Int) (hu:InI u) (hf:f u=none) :
 Calls Tryz.prog 113 #[.pointer (some ⟨wb,0,none⟩),.int .i64 u] w (BgQ w mb N rs u d f):=by
 have e2:w.cell? ⟨wb,2,none⟩=some (.map (some mb)):=by rw [cell_of h];rfl
 have e1:w.cell? ⟨wb,1,none⟩=some lv:=by rw [cell_of h];rfl
 have e0:w.cell? ⟨wb,0,none⟩=some v:=by rw [cell_of h];rfl
 have hlk:=hm.look_ok Tryz.underlying96 (z := .slice none 0 0) (by kernel_rfl) hu
 rw [hf] at hlk
 have HW:=Hid.mk' h
 have HM:=Hid.mk' hm
 have HD:=Hid.mk' hd
 have HP:=Hid.mk' hP
 have HK:=Hid.mk' hk0
 have HR:=Hid.mk' hdr
 have HT:=Hid.mk' hT
 have HPOS:Hid (0<w.heap.size):=Nat.lt_of_le_of_lt (Nat.zero_le _) (blk_lt h)
 obtain ⟨la,lc,hlv,hlc,hdc⟩:=hd
 obtain ⟨ra,rc,hv,_,_⟩:=hP
 subst hlv hv
 obtain ⟨ln,hln⟩:∃ ln,d.length=ln:=⟨_,rfl⟩
 obtain ⟨rn,hrl⟩:∃ rn,rs.length=rn:=⟨_,rfl⟩
 have HLN:=Hid.mk' hln
 have HRN:=Hid.mk' hrl
 rw [hln] at e1 HW HD hdn hlc
 rw [hrl] at e0 HW HP
 have lnI:(ln:Int)≤1000000:=by omega
 have HDC:=Hid.mk' hdc
 clear h hm hk0 hdr hT hf hdc hln hrl
 go_enter Tryz.func113,Tryz.ntmps113
 go_wp2
 go_loopw [5,8,25] (fun v5 _ v25 wr=>∃ k:Nat,v25 = .int .i64 k∧k≤ln∧Hid (OwnI wr w.heap.size v5 (begL rs u (d.take k))∧Below w.heap.size w wr)) (fun _ _ v25 _=>ln - (intOf v25).toNat)
 case atStart=>exact ⟨0,rfl,by omega,OwnI.nil _ _,Below.refl _ _⟩
 case round=>
  obtain ⟨k,rfl,hk,HO⟩:=hrel
  obtain ⟨x1,x2,x3,hsl⟩:=HO.out.1.ir.sl
  subst hsl
  have hB:=HO.out.2
  by_cases hlt:k<ln
  · have hltI:(k:Int)<(ln:Int):=by omega
    have hkd:k<d.length:=by have:=HLN.out;omega
    obtain ⟨dg,dof,hla,hdd⟩:=HDC.out.resolve_left fun e=>by rw [e] at hkd;simp at hkd
    subst hla
    obtain ⟨hx0,hx1⟩:=HR.out d[k] (List.getElem_mem hkd)
    obtain ⟨j,hj⟩:∃ j:Nat,d[k]=(j:Int):=⟨d[k].toNat,by omega⟩
    have cd:wr.cell? ⟨dg,dof+k,none⟩=some (.int .i64 (j:Int)):=by rw [←hj];exact cell_below (hdd k hkd) hB (Nat.le_refl _)
    have hjl:j<rs.length:=by omega
    have hkk:=HK.out rs[j] (List.getElem_mem hjl)
    obtain ⟨rg,ro,kg,ko,kc,hra,ck,hkc,hRR⟩:=psr_key1 (HP.out.below hB (Nat.le_refl _)) hjl hkk.1
    subst hra
    have c0:wr.cell? ⟨wb,0,none⟩=some (.slice (some ⟨rg,ro,none⟩) rn rc):=cell_below e0 hB (Nat.le_refl _)
    have jI:(j:Int)<(rn:Int):=by have:=HRN.out;omega
    have j0:(0:Int)≤(j:Int):=by omega
    have kcI:(1:Int)≤(kc:Int):=by omega
    obtain ⟨b,hb⟩:∃ b,begF rs u d[k]=b:=⟨_,rfl⟩
    have hfb:fitsB (key1 rs[j]) [] [u]=b:=by
     rw [←hb,hj]
     unfold begF
     rw [Int.toNat_natCast,List.getElem?_eq_getElem hjl]
    have hg:Grown wr (wr.alloc (.cells #[.int .i64 u] 3)):=(Grown.refl _).alloc _
    have hF:=fits_any (key1 rs[j]) (.slice none 0 0) (.slice (some ⟨kg,ko,none⟩) 1 kc) (.slice none 0 0) (.slice none 0 0) (.slice none 0 0) (.slice (some ⟨wr.heap.size,0,none⟩) 1 1) [] [u] _ ((HT.out.below hB HPOS.out).grown hg) (hRR.grown hg) ⟨none,0,rfl,Nat.le_refl _,.inl rfl⟩ (ir_one wr u _ rfl) (by simp)
    rw [hfb] at hF
    have HF:Hid (Calls Tryz.prog 114 #[.agg #[.bool false,.slice none 0 0,.slice (some ⟨kg,ko,none⟩) 1 kc,.slice none 0 0,.bool false,.slice none 0 0,.int .i64 0],.slice none 0 0,.slice (some ⟨wr.heap.size,0,none⟩) 1 1] (wr.alloc (.cells #[.int .i64 u] 3)) fun e w'=>e = .returned (.bool b)∧Grown (wr.alloc (.cells #[.int .i64 u] 3)) w'):=hF
    have hsn:=begL_snoc rs u d hkd
    rw [hb,hj] at hsn
    have HS:=Hid.mk' hsn
    have hdl:(begL rs u (d.take k)).length+1≤8796093022208:=by
     have h1:(begL rs u (d.take k)).length≤(d.take k).length:=List.length_filter_le _ _
     rw [List.length_take] at h1
     omega
    have HY:Hid (∀ W2,Grown (wr.alloc (.cells #[.int .i64 u] 3)) W2→Below w.heap.size w W2∧OwnI W2 w.heap.size (.slice x1 x2 x3) (begL rs u (d.take k))∧∀ ob,OwnI (W2.alloc ob) w.heap.size (.slice x1 x2 x3) (begL rs u (d.take k))∧w.heap.size≤(W2.alloc ob).heap.size∧Below w.heap.size w (W2.alloc ob)):=fun W2 g2=>by
     have g0:=hg.trans g2
     have b0:Below w.heap.size w W2:=hB.trans (g0.below.mono hB.size)
     have o0:=HO.out.1.below g0.below (Nat.le_refl _)
     refine ⟨b0,o0,fun ob => ?_⟩
     have g:=(Grown.refl W2).alloc ob
     have b1:=b0.trans (g.below.mono b0.size)
     exact ⟨o0.alloc ob,b1.size,b1⟩
    clear hsn hF hfb hb hRR hkk hdd hx0 hx1 hj hB HO hg HDC hlk
    cases b with
    | true=>
     rw [if_pos rfl] at HS
     go_wp2_with (first
      | (go_at_call 114
         refine HF.out.mono ?_
         rintro e w2 ⟨rfl,hg2⟩
         have HY2:=Hid.mk' (HY.out w2 hg2).2.2
         clear hg2)
      | (at_builtin;go_must
       (refine push_I rfl _ _ 25 rfl Tryz.underlying25 w.heap.size _ (begL rs u (d.take k)) rfl (HY2.out _).1 _ _ (j:Int) rfl (by (first | (simp;done) | exact new_cell _ _ _ _ rfl)) hdl (HY2.out _).2.1 ?_
        intro v3 w3 hO3 hB3
        have HZ3:Hid (OwnI w3 w.heap.size v3 (begL rs u (d.take (k+1)))∧Below w.heap.size w w3):=⟨by rw [HS.out];exact hO3,(HY2.out _).2.2.trans hB3⟩
        clear hO3 hB3)))
     exact ⟨⟨k+1,by go_num,by omega,HZ3⟩,by simp [intOf];omega⟩
    | false=>
     rw [if_neg (by simp)] at HS
     go_wp2_with (
      (go_at_call 114
       refine HF.out.mono ?_
       rintro e w2 ⟨rfl,hg2⟩
       have HZ3:Hid (OwnI w2 w.heap.size (.slice x1 x2 x3) (begL rs u (d.take (k+1)))∧Below w.heap.size w w2):=⟨by rw [HS.out];exact (HY.out w2 hg2).2.1,(HY.out w2 hg2).1⟩
       clear hg2))
     exact ⟨⟨k+1,by go_num,by omega,HZ3⟩,by simp [intOf];omega⟩
  · obtain rfl:k=ln:=by omega
    have hge:¬ (k:Int)<(k:Int):=by omega
    have hO:OwnI wr w.heap.size (.slice x1 x2 x3) (begL rs u d):=by
     have:=HO.out.1
     rwa [List.take_of_length_le (by rw [HLN.out];exact Nat.le_refl _)] at this
    have c2:wr.cell? ⟨wb,2,none⟩=some (.map (some mb)):=cell_below e2 hB (Nat.le_refl _)
    have hmr:IMap wr mb N f:=HM.out.kept fun o ho=>(hB.block mb (blk_lt ho)).trans ho
    obtain ⟨w4,hst,hm4,htu⟩:=hmr.store (by omega) Tryz.underlying96 hu (.slice x1 x2 x3)
    have hne:∀ b,(Value.slice x1 x2 x3).ownBlock=some b→b≠mb:=fun b hb e=>by
     obtain ⟨cur,hc⟩:=own_at hO hb
     obtain ⟨es,cc,he⟩:=hmr.isMap
     rw [e,he] at hc
     cases hc
    have hF4:Fr wr w4 fun k=>k=mb:=⟨htu.grown.os,htu.grown.tape,htu.grown.output,htu.grown.size,fun k _ hk=>turned_other htu hk⟩
    have HE:=Hid.mk' (And.intro (own_fr hO hF4 fun b hb e=>hne b hb e) (And.intro hm4 ((fr_below hB (Nat.le_refl _) _).trans hF4 fun _ _ e=>e)))
    clear hO hmr hm4 htu hne hF4 hB HO hlk
    go_wp2
    go_ret
    exact ⟨_,rfl,HE.out.1,HE.out.2.1,HE.out.2.2⟩
set_option maxHeartbeats 4000000 in
theorem beg_old {w:World} {wb mb:Nat} {v lv dv uv bv:Value} {room N:Nat} {f:Int→Option Value} (h:WKB w wb v lv (.map (some mb)) dv uv room) (hm:IMap w mb N f) (u:Int) (hu:InI u) (hf:f u=some bv) (hb:IsSl bv) :
 Calls Tryz.prog 113 #[.pointer (some ⟨wb,0,none⟩),.int .i64 u] w fun e w'=>e = .returned bv∧w'=w:=by
 have e2:w.cell? ⟨wb,2,none⟩=some (.map (some mb)):=by rw [cell_of h];rfl
 have hlk:=hm.look_ok Tryz.underlying96 (z := .slice none 0 0) (by kernel_rfl) hu
 obtain ⟨b1,b2,b3,rfl⟩:=hb
 rw [hf] at hlk
 clear hm h hf
 go_enter Tryz.func113,Tryz.ntmps113
 go_wp2
 go_ret
 exact ⟨rfl,rfl⟩
def FI (w:World) (B:Nat) (rs:List Rl) (d:List Int) (f:Int→Option Value):Prop:=∀ u bv,f u=some bv→OwnI w B bv (begL rs u d)
theorem FI.fr {w w':World} {B mb N:Nat} {rs:List Rl} {d:List Int} {f:Int→Option Value} (h:FI w B rs d f) (hm:IMap w mb N f) (hf:Fr w w' fun k=>k=mb):FI w' B rs d f:=fun u bv hu=>own_fr (h u bv hu) hf fun b hb e=>by
 obtain ⟨cur,hc⟩:=own_at (h u bv hu) hb
 obtain ⟨es,cc,he⟩:=hm.isMap
 rw [e,he] at hc
 cases hc
def FM (n:Nat) (f f':Int→Option Value):Prop:=∀ u bv,f' u=some bv→f u=some bv∨∀ b,bv.ownBlock=some b→n≤b
def fitN (rs:List Rl) (dn lf:List Int) (n:Int):Bool:=match rs[n.toNat]? with | some r=>fitsB r dn lf | none=>false
def nxtW (rs:List Rl) (d dn lf:List Int):Int:=((begL rs (lf.headD 0) d).find? (fitN rs dn lf)).getD (-1)
def BnQ (w:World) (B mb N:Nat) (rs:List Rl) (u:Int) (d:List Int) (f:Int→Option Value) (e:Ending) (w':World):Prop:=∃ bv f',e = .returned bv∧OwnI w' B bv (begL rs u d)∧IMap w' mb (N+1) f'∧FI w' B rs d f'∧(Fr w w' fun k=>k=mb)∧FM w.heap.size f f'
theorem beg_any {w:World} {wb mb B:Nat} {v lv dv uv:Value} {room N:Nat} {rs:List Rl} {d:List Int} {f:Int→Option Value} (hT:Tab w) (h:WKB w wb v lv (.map (some mb)) dv uv room) (hm:IMap w mb N f) (hN:N<1000000000) (hP:PsR w v rs) (hk0:∀ r∈rs,0<r.key.length∧r.key.length≤1000000) (hd:IR w lv d) (hdn:d.length≤1000000) (hdr:∀ x∈d,0≤x∧x<rs.length) (u:Int) (hu:InI u) (hF:FI w B rs d f) (hB:B≤w.heap.size) :
 Calls Tryz.prog 113 #[.pointer (some ⟨wb,0,none⟩),.int .i64 u] w (BnQ w B mb N rs u d f):=by
 cases hf:f u with
 | none=>
  refine (beg_new hT h hm hN hP hk0 hd hdn hdr u hu hf).mono ?_
  rintro e w' ⟨bv,rfl,h1,h2,h3⟩
  refine ⟨bv,_,rfl,h1.le hB,h2,fun x xv hx => ?_,h3,fun x xv hx => ?_⟩
  rotate_left
  · by_cases hxu:x=u
    · subst hxu
      have e:updM f x bv x=some bv:=by simp [updM]
      rw [e] at hx
      injection hx with hx
      rw [←hx]
      exact .inr fun b hb=>(World.ownsRow.lt h1 b hb).1
    · have e:updM f u bv x=f x:=by simp [updM,hxu]
      rw [e] at hx
      exact .inl hx
  by_cases hxu:x=u
  · subst hxu
    have e:updM f x bv x=some bv:=by simp [updM]
    rw [e] at hx
    injection hx with hx
    rw [←hx]
    exact h1.le hB
  · have e:updM f u bv x=f x:=by simp [updM,hxu]
    rw [e] at hx
    exact hF.fr hm h3 x xv hx
 | some bv=>
  refine (beg_old h hm u hu hf (hF u bv hf).ir.sl).mono ?_
  rintro e w' ⟨rfl,rfl⟩
  exact ⟨bv,f,rfl,hF u bv hf,hm.mono (Nat.le_succ _),hF,Fr.refl _ _,fun _ _ h => .inl h⟩
theorem find_at {p:Int→Bool} {L:List Int} {k:Nat} (hk:k<L.length) (h0:∀ x∈L.take k,p x=false) (h1:p L[k]=true):L.find? p=some L[k]:=by
 have e:L=L.take k++L[k]::L.drop (k+1):=by simp
 have e2:(L.take k).find? p=none:=List.find?_eq_none.2 fun x hx=>by simp [h0 x hx]
 refine (congrArg (List.find? p) e).trans ?_
 rw [List.find?_append,e2,List.find?_cons_of_pos h1]
 rfl
theorem take_all {p:Int→Bool} {L:List Int} {k:Nat} (hk:k<L.length) (h0:∀ x∈L.take k,p x=false) (h1:p L[k]=false):∀ x∈L.take (k+1),p x=false:=fun x hx=>by
 rw [List.take_succ_eq_append_getElem hk,List.mem_append] at hx
 rcases hx with hx | hx
 · exact h0 x hx
 · rw [List.mem_singleton.1 hx];exact h1
def NxQ (w:World) (B mb N:Nat) (rs:List Rl) (d dn lf:List Int) (f:Int→Option Value) (e:Ending) (w':World):Prop:=∃ f',e = .returned (.int .i64 (nxtW rs d dn lf))∧IMap w' mb (N+1) f'∧FI w' B rs d f'∧(Fr w w' fun k=>k=mb)∧FM w.heap.size f f'
set_option maxHeartbeats 8000000 in
theorem next_any {W0 w:World} {wb mb B:Nat} {v lv dv:Value} {g n c room N:Nat} {rs:List Rl} {d dn uu:List Int} {f:Int→Option Value} (hT0:Tab W0) (hz0:0<W0.heap.size) (h:WKB w wb v lv (.map (some mb)) dv (.slice (some ⟨g,0,none⟩) n c) room) (hm:IMap w mb N f) (hN:N<1000000000) (hP0:PsR W0 v rs) (hb0:Below W0.heap.size W0 w) (hm0:W0.heap.size≤mb) (hk0:∀ r∈rs,0<r.key.length∧r.key.length≤1000000) (hd:IR w lv d) (hdn:d.length≤1000000) (hdr:∀ x∈d,0≤x∧x<rs.length) (hF:FI w B rs d f) (hB:B≤w.heap.size)
 (hD:OwnI w B dv dn) (hdl:dn.length≤1000000000) (hU:OwnI w B (.slice (some ⟨g,0,none⟩) n c) uu) (hul:uu.length=n) (hr:room<n) (hn:n≤1000000000) (hui:∀ x∈uu.drop room,InI x) :
 Calls Tryz.prog 94 #[.pointer (some ⟨wb,0,none⟩)] w (NxQ w B mb N rs d dn (uu.drop room) f):=by
 have hP:PsR w v rs:=hP0.below hb0 (Nat.le_refl _)
 have hT:Tab w:=hT0.below hb0 hz0
 have hnc:n≤c:=by
  rcases hU.2 with ⟨e,_⟩ | ⟨g',cap,cur,e,_,_,h1,_⟩
  · cases e
  · injection e with e1 e2 e3
    rw [hul] at h1
    omega
 have HN:=Hid.mk' (now_any h (by omega) hnc (fun e=>by cases e))
 have hna:nowA (some ⟨g,0,none⟩) c room=some ⟨g,room,none⟩:=by
  unfold nowA
  rw [if_neg (by omega)]
  simp only [Option.map_some,Addr.add]
  split <;> simp_all
 have hLf:=ir_now (room:=room) hU.ir hul hnc (by omega)
 rw [hna] at HN hLf
 obtain ⟨u,lr,hlf⟩:∃ u lr,uu.drop room=u::lr:=by
  cases hx:uu.drop room with
  | nil=>have:=congrArg List.length hx;simp at this;omega
  | cons u lr=>exact ⟨u,lr,rfl⟩
 have huI:InI u:=hui u (by rw [hlf];exact List.mem_cons_self ..)
 have hlen:(uu.drop room).length=n - room:=by rw [List.length_drop,hul]
 have cu:w.drew.cell? ⟨g,room,none⟩=some (.int .i64 u):=by
  obtain ⟨a',c',e,_,h5⟩:=hLf
  obtain ⟨g',o',e5,hd5⟩:=h5.resolve_left fun e=>by rw [hlf] at e;cases e
  injection e with e _ _
  rw [e5] at e
  injection e with e
  injection e with e6 e7 _
  have:=hd5 0 (by omega)
  subst e6 e7
  simp only [hlf,List.getElem_cons_zero,Nat.add_zero] at this
  exact this
 have hw:nxtW rs d dn (uu.drop room)=((begL rs u d).find? (fitN rs dn (uu.drop room))).getD (-1):=by unfold nxtW;rw [hlf];rfl
 have HQ:Hid (∀ x f' w',((begL rs u d).find? (fitN rs dn (uu.drop room))).getD (-1)=x→IMap w' mb (N+1) f'→FI w' B rs d f'→(Fr w w' fun k=>k=mb)→FM w.heap.size f f'→NxQ w B mb N rs d dn (uu.drop room) f (.returned (.int .i64 x)) w'):=fun x f' w' hx h1 h2 h3 h4=>⟨f',by rw [hw,hx],h1,h2,h3,h4⟩
 generalize hLL:uu.drop room=lf at *
 have HBg:Hid (∀ W,Grown w W→Calls Tryz.prog 113 #[.pointer (some ⟨wb,0,none⟩),.int .i64 u] W (BnQ W B mb N rs u d f)):=fun W gw=>beg_any (hT.grown gw) (h.fr (fr_grown gw fun _=>False) id) (hm.kept fun o ho=>(gw.below.block mb (blk_lt ho)).trans ho) hN (hP.grown gw) hk0 (hd.grown gw) hdn hdr u huI (fun x xv hx=>(hF x xv hx).below gw.below (Nat.le_refl _)) (by have:=gw.size;omega)
 have hne:∀ {v':Value} {l:List Int},OwnI w B v' l→∀ b,v'.ownBlock=some b→b≠mb:=fun ho b hb e=>by
  obtain ⟨cur,hc⟩:=own_at ho hb
  obtain ⟨es,cc,he⟩:=hm.isMap
  rw [e,he] at hc
  cases hc
 have hwm:wb≠mb:=fun e=>by
  obtain ⟨es,cc,he⟩:=hm.isMap
  have h':=h
  unfold WKB at h'
  rw [e,he] at h'
  cases h'
 have HAll:Hid (∀ W,(Fr w W fun k=>k=mb)→Tab W∧PsR W v rs∧IR W dv dn∧IR W (.slice (some ⟨g,room,none⟩) (n - room) (c - room)) lf∧W.cell? ⟨wb,0,none⟩=some v∧W.cell? ⟨wb,3,none⟩=some dv):=fun W hf=>by
  have hb2:Below W0.heap.size W0 W:=hb0.trans (hf.below (fun k e=>by omega) hb0.size)
  have hU2:OwnI W B (.slice (some ⟨g,0,none⟩) n c) uu:=own_fr hU hf fun b hb e=>hne hU b hb e
  have hl2:=ir_now (room:=room) hU2.ir hul hnc (by omega)
  rw [hna,hLL] at hl2
  have h2:=h.fr hf hwm
  have hTm:Tab W:=hT0.below hb2 hz0
  exact ⟨hTm,hP0.below hb2 (Nat.le_refl _),OwnI.ir (own_fr hD hf fun b hb e=>hne hD b hb e),hl2,by rw [cell_of h2];rfl,by rw [cell_of h2];rfl⟩
 obtain ⟨dva,dvc,hdv⟩:=hD.sl
 have HDR:=Hid.mk' hdr
 have HDN:=Hid.mk' hdn
 have HDL:=Hid.mk' hdl
 obtain ⟨ra,rc,hv,_,_⟩:=hP
 subst hv hdv
 obtain ⟨rn,hrl⟩:∃ rn,rs.length=rn:=⟨_,rfl⟩
 obtain ⟨dl,hdl2⟩:∃ dl,dn.length=dl:=⟨_,rfl⟩
 have HRN:=Hid.mk' hrl
 rw [hrl,hdl2] at HAll
 clear h hm hT hT0 hz0 hP0 hb0 hk0 hd hdr hF hD hU hw hLf huI hui hna hne hwm hrl hdl2 hdl hN hdn hlf hLL
 have nI:(n:Int)≤1000000000:=by omega
 have rI:(room:Int)<(n:Int):=by omega
 have hnr:(0:Int)<((n - room:Nat):Int):=by omega
 go_enter Tryz.func94,Tryz.ntmps94
 go_wp2_with (first
  | (go_at_call 68
     refine HN.out.mono ?_
     rintro e w2 ⟨rfl,rfl⟩)
  | (go_at_call 113
     refine (HBg.out _ (by (repeat (first | exact Grown.refl _ | refine Grown.alloc ?_ _ | refine Grown.drew ?_ | refine Grown.drewN ?_ _ | refine Grown.quiet ?_ _ _)))).mono ?_
     rintro e w3 ⟨bv,f',rfl,hb1,hb2,hb3,hb4,hb5⟩
     have HB1:=Hid.mk' (And.intro hb1 (And.intro hb2 (And.intro hb3 (And.intro (Fr.trans (fr_grown (Grown.refl w).drew fun k=>k=mb) hb4 fun _ _ e=>e) hb5))))
     obtain ⟨y1,y3,hsl⟩:=hb1.sl
     subst hsl
     clear hb1 hb2 hb3 hb4 hb5))
 obtain ⟨L,hL⟩:∃ L,begL rs u d=L:=⟨_,rfl⟩
 have HLR:Hid (∀ x∈L,0≤x∧x<(rn:Int)):=fun x hx=>by
  rw [←hL] at hx
  have:=HDR.out x (List.mem_filter.1 hx).1
  rw [HRN.out] at this
  exact this
 obtain ⟨y2,hy2⟩:∃ y2,L.length=y2:=⟨_,rfl⟩
 have HY2:=Hid.mk' hy2
 rw [hL] at HB1 HQ ⊢
 rw [hy2] at HB1 ⊢
 have HYB:Hid (y2≤1000000):=by
  have h1:(begL rs u d).length≤d.length:=List.length_filter_le _ _
  rw [hL,hy2] at h1
  have:=HDN.out
  show _≤_
  omega
 have yI:(y2:Int)≤1000000:=by have:=HYB.out;omega
 clear hL hy2
 go_loopw [5,16] (fun _ v16 wr=>∃ k:Nat,v16 = .int .i64 k∧k≤y2∧Hid (Grown w3 wr∧∀ x∈L.take k,fitN rs dn lf x=false)) (fun _ v16 _=>y2 - (intOf v16).toNat)
 case atStart=>exact ⟨0,rfl,by omega,Grown.refl _,fun x hx=>by simp at hx⟩
 case round=>
  obtain ⟨k,rfl,hk,HI⟩:=hrel
  have k0:(0:Int)≤(k:Int):=by omega
  by_cases hlt:k<y2
  · have hltI:(k:Int)<(y2:Int):=by omega
    have hkl:k<L.length:=by have:=HY2.out;omega
    have hIR:IR wr (.slice y1 y2 y3) L:=(OwnI.ir HB1.out.1).grown HI.out.1
    obtain ⟨a5,c5,e5,_,h5⟩:=hIR
    obtain ⟨yg,yo,e6,hd6⟩:=h5.resolve_left fun e=>by rw [e] at hkl;simp at hkl
    injection e5 with e5 e5b e5c
    clear e5b e5c
    rw [e6] at e5
    subst e5
    obtain ⟨hx0,hx1⟩:=HLR.out L[k] (List.getElem_mem hkl)
    obtain ⟨j,hj⟩:∃ j:Nat,L[k]=(j:Int):=⟨L[k].toNat,by omega⟩
    have cd:wr.cell? ⟨yg,yo+k,none⟩=some (.int .i64 (j:Int)):=by rw [←hj];exact hd6 k hkl
    have hjl:j<rs.length:=by have:=HRN.out;omega
    have hFr:Fr w wr fun k=>k=mb:=HB1.out.2.2.2.1.trans (fr_grown HI.out.1 _) fun _ _ e=>e
    obtain ⟨hT,hP,hD,hL4,c0,c3⟩:=HAll.out wr hFr
    obtain ⟨a7,c7,e7,_,h7⟩:=hP
    obtain ⟨rg,ro,e8,hR⟩:=h7.resolve_left fun e=>by rw [e] at hjl;simp at hjl
    injection e7 with e7 e7b e7c
    clear e7b e7c
    rw [e8] at e7
    subst e7
    obtain ⟨av,kv,pv,rv,q0,q1,q2,q3,q4,q5,q6,hRR⟩:=hR j hjl
    have HFt:Hid (∀ V,Grown wr V→Calls Tryz.prog 114 #[.agg #[.bool rs[j].bg,av,kv,pv,.bool rs[j].en,rv,.int .i64 rs[j].cu],.slice dva dl dvc,.slice (some ⟨g,room,none⟩) (n - room) (c - room)] V fun e w'=>e = .returned (.bool (fitsB rs[j] dn lf))∧Grown V w'):=fun V gV=>fits_any rs[j] av kv pv rv _ _ dn lf V (hT.grown gV) (hRR.grown gV) (hD.grown gV) (hL4.grown gV) (by have:=HDL.out;omega)
    obtain ⟨s1,s2,s3,hs1⟩:=hRR.a.sl
    obtain ⟨s4,s5,s6,hs2⟩:=hRR.k.sl
    obtain ⟨s7,s8,s9,hs3⟩:=hRR.p.sl
    obtain ⟨t1,t2,t3,hs4⟩:=hRR.r.sl
    subst hs1 hs2 hs3 hs4
    obtain ⟨b,hb⟩:∃ b,fitsB rs[j] dn lf=b:=⟨_,rfl⟩
    have HFB:Hid (fitN rs dn lf L[k]=b):=by
     show _=_
     rw [←hb,hj]
     unfold fitN
     rw [Int.toNat_natCast,List.getElem?_eq_getElem hjl]
    rw [hb] at HFt
    have jI:(j:Int)<(rn:Int):=by omega
    have j0:(0:Int)≤(j:Int):=by omega
    have HJ:=Hid.mk' hj
    clear hRR hR h7 h5 hd6 hT hD hL4 hj hb hx0 hx1 hFr
    go_wp2
    go_region_with (go_at_call 114;go_must (refine (HFt.out _ (by (repeat (first | exact Grown.refl _ | refine Grown.alloc ?_ _ | refine Grown.drew ?_ | refine Grown.drewN ?_ _ | refine Grown.quiet ?_ _ _)))).mono ?_;rintro e w5 ⟨rfl,hg5⟩;have HG5:=Hid.mk' hg5;clear hg5))
    all_goals
     have HG6:Hid (Grown w3 w5):=HI.out.1.trans ((by (repeat (first | exact Grown.refl _ | refine Grown.alloc ?_ _ | refine Grown.drew ?_ | refine Grown.drewN ?_ _ | refine Grown.quiet ?_ _ _)):Grown wr _).trans HG5.out)
     cases b with
     | true=>
      go_wp2
      go_ret
      have g6:=HG6.out
      refine HQ.out _ f' _ (by rw [find_at hkl HI.out.2 HFB.out,HJ.out];rfl) (HB1.out.2.1.kept fun o ho=>(g6.below.block mb (blk_lt ho)).trans ho) (fun x xv hx=>(HB1.out.2.2.1 x xv hx).below g6.below (Nat.le_refl _)) (HB1.out.2.2.2.1.trans (fr_grown g6 _) fun _ _ e=>e) HB1.out.2.2.2.2
     | false=>
      go_wp2
      exact ⟨⟨k+1,by go_num,by omega,HG6.out,take_all hkl HI.out.2 HFB.out⟩,by simp [intOf];omega⟩
  · obtain rfl:k=y2:=by omega
    have hge:¬ (k:Int)<(k:Int):=by omega
    go_wp2
    go_ret
    have g6:=HI.out.1
    have hnone:L.find? (fitN rs dn lf)=none:=List.find?_eq_none.2 fun x hx=>by
     have:=HI.out.2 x (by rw [List.take_of_length_le (by rw [HY2.out];exact Nat.le_refl _)];exact hx)
     simp [this]
    exact HQ.out _ f' _ (by rw [hnone];rfl) (HB1.out.2.1.kept fun o ho=>(g6.below.block mb (blk_lt ho)).trans ho) (fun x xv hx=>(HB1.out.2.2.1 x xv hx).below g6.below (Nat.le_refl _)) (HB1.out.2.2.2.1.trans (fr_grown g6 _) fun _ _ e=>e) HB1.out.2.2.2.2
structure NxW (w w3:World) (B mb N:Nat) (rs:List Rl) (d:List Int) (f':Int→Option Value):Prop where
 map:IMap w3 mb (N+1) f'
 fi:FI w3 B rs d f'
 fr:Fr w w3 fun k=>k=mb
theorem WKB.done {w:World} {wb:Nat} {rv ov mv dv uv:Value} {room:Nat} (h:WKB w wb rv ov mv dv uv room) (u:Value):WKB (w.setCell ⟨wb,3,none⟩ u) wb rv ov mv u uv room:=by
 unfold WKB;rw [set_heap h];rfl
theorem ret_st {fn:Func} {p:Tmp} {W:World} {B:Nat} {tmps:Array Value} {a b c d e f:Value} {R:Ending→World→Prop} (hr:fn.results=#[.cell p 126]) (hp:tmps.getD p undef = .pointer (some ⟨B,0,none⟩)) (h:W.heap[B]? = some (.cells #[a,b,c,d,e,f] 126 (0,0)))
 (K:R (.returned (.agg #[a,b,c,d,e,f])) W):bodyPost Tryz.prog fn R Exit.ret { tmps:=tmps,defers:=[] } W:=by
 have c0:W.cell? ⟨B,0,none⟩=some a:=by rw [cell_of h];simp
 have c1:W.cell? ⟨B,1,none⟩=some b:=by rw [cell_of h];simp
 have c2:W.cell? ⟨B,2,none⟩=some c:=by rw [cell_of h];simp
 have c3:W.cell? ⟨B,3,none⟩=some d:=by rw [cell_of h];simp
 have c4:W.cell? ⟨B,4,none⟩=some e:=by rw [cell_of h];simp
 have c5:W.cell? ⟨B,5,none⟩=some f:=by rw [cell_of h];simp
 refine bodyPost_ret (v := .agg #[a,b,c,d,e,f]) ?_ rfl K
 rw [Array.getD_eq_getD_getElem?] at hp
 simp only [results,hr]
 simp [hp,go_sem,c0,c1,c2,c3,c4,c5]
def SkQ (w:World) (B wb mb N:Nat) (rs:List Rl) (d dn uu:List Int) (v lv dv uv:Value) (n room:Nat) (f:Int→Option Value) (x:Array Value) (La bl:List Int) (took:Nat) (e:Ending) (w':World):Prop:=∃ w3 f' W6 dv' w7,e = .returned (.agg x)∧NxW w w3 B mb N rs d f'∧FM w.heap.size f f'∧(∃ cs,w3.heap[w.heap.size]? = some (.cells cs 126 (0,0)))∧OwnI W6 B dv' (dn++La)∧(dv'.ownBlock=dv.ownBlock∨∃ g,dv'.ownBlock=some g∧w3.heap.size≤g)∧(Fr w3 W6 fun k=>k=wb∨dv.ownBlock=some k)∧SwQ W6 w7 B wb v lv (.map (some mb)) dv' uv n (room+took) uu bl∧Fr w7 w' fun k=>k=w.heap.size
set_option maxHeartbeats 8000000 in
theorem step_none {W0 w:World} {wb mb B:Nat} {v lv dv:Value} {g n c room N:Nat} {rs:List Rl} {d dn uu:List Int} {f:Int→Option Value} (hT0:Tab W0) (hz0:0<W0.heap.size) (h:WKB w wb v lv (.map (some mb)) dv (.slice (some ⟨g,0,none⟩) n c) room) (hm:IMap w mb N f) (hN:N<1000000000) (hP0:PsR W0 v rs) (hb0:Below W0.heap.size W0 w) (hm0:W0.heap.size≤mb) (hk0:∀ r∈rs,0<r.key.length∧r.key.length≤1000000) (hd:IR w lv d) (hdn:d.length≤1000000) (hdr:∀ x∈d,0≤x∧x<rs.length) (hF:FI w B rs d f) (hB:B≤w.heap.size)
 (hD:OwnI w B dv dn) (hdl:dn.length≤1000000000) (hU:OwnI w B (.slice (some ⟨g,0,none⟩) n c) uu) (hul:uu.length=n) (hr:room<n) (hn:n≤1000000000) (hui:∀ x∈uu.drop room,InI x) (hmw:mb<w.heap.size) (hn8:n≤100000000) (hdu:∀ b,dv.ownBlock=some b→b≠g) (hnx:nxtW rs d dn (uu.drop room) = -1) :
 Calls Tryz.prog 69 #[.pointer (some ⟨wb,0,none⟩)] w (SkQ w B wb mb N rs d dn uu v lv dv (.slice (some ⟨g,0,none⟩) n c) n room f #[.int .i64 (-1),.int .i64 (dn.length:Int),.int .i64 ((n - room:Nat):Int),.int .i64 1,.int .i64 1,.int .i64 0] ((uu.drop room).take 1) [] 1):=by
 have hnc:n≤c:=by
  rcases hU.2 with ⟨e,_⟩ | ⟨g',cap,cur,e,_,_,h1,_⟩
  · cases e
  · injection e with e1 e2 e3
    rw [hul] at h1
    omega
 have hna:nowA (some ⟨g,0,none⟩) c room=some ⟨g,room,none⟩:=by
  unfold nowA
  rw [if_neg (by omega)]
  simp only [Option.map_some,Addr.add]
  split <;> simp_all
 have HNA:=Hid.mk' hna
 have HN:Hid (∀ W,Grown w W→Calls Tryz.prog 68 #[.pointer (some ⟨wb,4,none⟩)] W fun e w'=>w'=W.drew∧e = .returned (.slice (some ⟨g,room,none⟩) (n - room) (c - room))):=fun W gw=>by
  have:=now_any (h.fr (fr_grown gw fun _=>False) id) (by omega) hnc (fun e=>by cases e)
  rwa [hna] at this
 have HX:Hid (∀ W,Grown w W→Calls Tryz.prog 94 #[.pointer (some ⟨wb,0,none⟩)] W fun e w3=>∃ f',e = .returned (.int .i64 (-1))∧NxW W w3 B mb N rs d f'∧FM w.heap.size f f'):=fun W gw=>by
  have gb:=gw.below
  refine (next_any hT0 hz0 (h.fr (fr_grown gw fun _=>False) id) (hm.kept fun o ho=>(gb.block mb (blk_lt ho)).trans ho) hN hP0 (hb0.trans (gb.mono hb0.size)) hm0 hk0 (hd.grown gw) hdn hdr (fun x xv hx=>(hF x xv hx).below gb (Nat.le_refl _)) (by have:=gw.size;omega) (hD.below gb (Nat.le_refl _)) hdl (hU.below gb (Nat.le_refl _)) hul hr hn hui).mono ?_
  rintro e w3 ⟨f',rfl,h1,h2,h3,h4⟩
  refine ⟨f',by rw [hnx],⟨h1,h2,h3⟩,fun x xv hx=>(h4 x xv hx).imp id fun hb b hbb=>Nat.le_trans gw.size (hb b hbb)⟩
 have hwm:wb≠mb:=fun e=>by
  obtain ⟨es,cc,he⟩:=hm.isMap
  have h':=h
  unfold WKB at h'
  rw [e,he] at h'
  cases h'
 have hne:∀ {v':Value} {l:List Int},OwnI w B v' l→∀ b,v'.ownBlock=some b→b≠mb:=fun ho b hb e=>by
  obtain ⟨cur,hc⟩:=own_at ho hb
  obtain ⟨es,cc,he⟩:=hm.isMap
  rw [e,he] at hc
  cases hc
 have HDO:Hid (∀ W,(Fr w W fun k=>k=mb)→OwnI W B dv dn):=fun W hf=>own_fr hD hf fun b hb e=>hne hD b hb e
 have HUO:Hid (∀ W,(Fr w W fun k=>k=mb)→OwnI W B (.slice (some ⟨g,0,none⟩) n c) uu):=fun W hf=>own_fr hU hf fun b hb e=>hne hU b hb e
 have nrI:(1:Int)≤((n - room:Nat):Int):=by omega
 have crI:(1:Int)≤((c - room:Nat):Int):=by omega
 obtain ⟨dva,dvc,hdv⟩:=hD.sl
 subst hdv
 have HW:=Hid.mk' h
 clear h hm hN hP0 hb0 hk0 hd hdr hF hui hT0 hz0 hnx hna
 go_enter Tryz.func69,Tryz.ntmps69
 go_wp2_with (first
  | (go_at_call 68
     refine (HN.out _ (by (repeat (first | exact Grown.refl _ | refine Grown.alloc ?_ _ | refine Grown.drew ?_)))).mono ?_
     rintro e w2 ⟨rfl,rfl⟩)
  | (go_at_call 94
     refine (HX.out _ (by (repeat (first | exact Grown.refl _ | refine Grown.alloc ?_ _ | refine Grown.drew ?_)))).mono ?_
     rintro e w3 ⟨f',rfl,hx3,hfm⟩
     have HX3:=Hid.mk' hx3
     have HFM:=Hid.mk' hfm
     clear hx3 hfm))
 go_region
 have HF3:Hid (Fr w w3 fun k=>k=mb):=(fr_grown (((Grown.refl w).alloc _).drew) _).trans HX3.out.fr fun _ _ e=>e
 obtain ⟨wq,hwq⟩:∃ wq,wq=w3.drew:=⟨_,rfl⟩
 have hgq:Grown w3 wq:=by rw [hwq];exact (Grown.refl _).drew
 have HFQ:Hid (Fr w wq fun k=>k=mb):=HF3.out.trans (fr_grown hgq _) fun _ _ e=>e
 have HRQ:wq.heap[w.heap.size]? = some (.cells #[.int .i64 0,.int .i64 0,.int .i64 0,.int .i64 0,.int .i64 0,.int .i64 0] 126 (0,0)):=by
  rw [hwq]
  exact (HX3.out.fr.block w.heap.size (by simp) (by omega)).trans (heap_alloc_new w _)
 have H3Q:Hid (Fr w3 wq fun k=>k=wb∨(Value.slice dva dn.length dvc).ownBlock=some k):=fr_grown hgq _
 have HR3Q:Hid (∃ cs,w3.heap[w.heap.size]? = some (.cells cs 126 (0,0))):=⟨_,(HX3.out.fr.block w.heap.size (by simp) (by omega)).trans (heap_alloc_new w _)⟩
 have HIQ:Hid (IR wq (.slice (some ⟨g,room,none⟩) 1 (c - room)) ((uu.drop room).take 1)):=by
  have:=ir_now (room:=room) (HUO.out wq HFQ.out).ir hul hnc (by omega)
  rw [show nowA (some ⟨g,0,none⟩) c room=some ⟨g,room,none⟩ from HNA.out] at this
  exact ir_take this (by omega)
 have HLQ:Hid (((uu.drop room).take 1).length≤1000000∧([]:List Int).length≤1000000):=⟨by rw [List.length_take];omega,by simp⟩
 have HJQ:Hid (IR wq (.slice none 0 0) []∧(Value.slice none 0 0).ownBlock≠some wb∧∀ b,(Value.slice none 0 0).ownBlock=some b→¬ b<w.heap.size):=⟨⟨none,0,rfl,Nat.le_refl _,.inl rfl⟩,by simp [Value.ownBlock],by simp [Value.ownBlock]⟩
 rw [←hwq]
 clear hgq hwq
 have HRB3:Hid (wq.heap[w.heap.size]? = some (.cells #[.int .i64 0,.int .i64 0,.int .i64 0,.int .i64 0,.int .i64 0,.int .i64 0] 126 (0,0))):=HRQ
 have HW3:=Hid.mk' (HW.out.fr HFQ.out hwm)
 have c3:wq.cell? ⟨wb,3,none⟩=some (.slice dva dn.length dvc):=by
  rw [cell_of HW3.out];rfl
 obtain ⟨W4,hW4⟩:∃ W4,W4=wq.alloc (.cells #[.int .i64 (-1),.int .i64 (dn.length:Int),.int .i64 ((n - room:Nat):Int),.int .i64 1,.int .i64 1,.int .i64 0] 126):=⟨_,rfl⟩
 have g4:Grown wq W4:=by rw [hW4];exact (Grown.refl _).alloc _
 have hW4w:=HW3.out.fr (fr_grown g4 fun _=>False) id
 have c34:W4.cell? ⟨wb,3,none⟩=some (.slice dva dn.length dvc):=by rw [cell_of hW4w];rfl
 have hO4:OwnI W4 B (.slice dva dn.length dvc) dn:=OwnI.below (HDO.out wq HFQ.out) g4.below (Nat.le_refl _)
 have hU4:OwnI W4 B (.slice (some ⟨g,0,none⟩) n c) uu:=OwnI.below (HUO.out wq HFQ.out) g4.below (Nat.le_refl _)
 have hI4:IR W4 (.slice (some ⟨g,room,none⟩) 1 (c - room)) ((uu.drop room).take 1):=HIQ.out.below g4.below (Nat.le_refl _)
 have hl1:((uu.drop room).take 1).length≤1000000:=HLQ.out.1
 have hl5:(dn++(uu.drop room).take 1).length=dn.length+((uu.drop room).take 1).length:=by rw [List.length_append]
 have hs4:B≤W4.heap.size:=by have:=g4.size;have:=HFQ.out.size;omega
 have hne4:∀ b,(Value.slice dva dn.length dvc).ownBlock=some b→b≠wb:=fun b hb=>hW4w.ne hO4 hb
 have htb:W4.heap[wq.heap.size]? = some (.cells #[.int .i64 (-1),.int .i64 (dn.length:Int),.int .i64 ((n - room:Nat):Int),.int .i64 1,.int .i64 1,.int .i64 0] 126 (0,0)):=by rw [hW4];exact heap_alloc_new _ _
 have hdlt:∀ b,(Value.slice dva dn.length dvc).ownBlock=some b→b<w.heap.size:=fun b hb=>(World.ownsRow.lt hD b hb).2
 have HA:Hid (∀ v5 w5,OwnI w5 B v5 (dn++(uu.drop room).take 1)→W4.grownBy w5 (Value.slice dva dn.length dvc).ownBlock→(v5.ownBlock=(Value.slice dva dn.length dvc).ownBlock∨v5.ownBlock=some W4.heap.size)→∃ p1 p2 p3,v5 = .slice p1 p2 p3∧OwnI w5 B v5 (dn++(uu.drop room).take 1)∧WKB w5 wb v lv (.map (some mb)) (.slice dva dn.length dvc) (.slice (some ⟨g,0,none⟩) n c) room∧OwnI w5 B (.slice (some ⟨g,0,none⟩) n c) uu∧(Fr wq w5 fun k=>(Value.slice dva dn.length dvc).ownBlock=some k)∧w5.heap[wq.heap.size]? = some (.cells #[.int .i64 (-1),.int .i64 (dn.length:Int),.int .i64 ((n - room:Nat):Int),.int .i64 1,.int .i64 1,.int .i64 0] 126 (0,0))∧(v5.ownBlock=(Value.slice dva dn.length dvc).ownBlock∨∃ g,v5.ownBlock=some g∧wq.heap.size≤g)):=fun v5 w5 h1 h2 h6=>by
  obtain ⟨p1,p3,hv⟩:=h1.sl
  have hf:=fr_by h2
  refine ⟨p1,_,p3,hv,h1,hW4w.fr hf fun e=>hne4 wb e rfl,own_fr hU4 hf fun b hb e => ?_,(fr_grown g4 _).trans hf fun _ _ e=>e,(hf.block _ (blk_lt htb) fun e => ?_).trans htb,h6.imp id fun e=>⟨_,e,g4.size⟩⟩
  · injection hb with hb
    exact hdu b e (by have hb:g=b:=hb;omega)
  · have:=hdlt _ e
    have:=HFQ.out.size
    omega
 have HO4:=Hid.mk' hO4
 have HI4:=Hid.mk' hI4
 have HG4:=Hid.mk' g4
 clear hU4 hI4 hO4 hl5 hne4 htb
 subst hW4
 go_wp2_with (at_builtin;go_must (refine app_I3 rfl _ _ rfl B _ _ dn ((uu.drop room).take 1) rfl HO4.out rfl HI4.out (by omega) hs4 ?_;intro v5 w5 hO5 hg5 hk5;have HA5:=Hid.mk' (HA.out v5 w5 hO5 hg5 hk5);clear hO5 hg5 hk5;obtain ⟨p1,p2,p3,hv5,hA5⟩:=HA5.out;subst hv5;have HB5:=Hid.mk' hA5;have e35:w5.cell? ⟨wb,3,none⟩=some (.slice dva dn.length dvc):=(cell_of hA5.2.1).trans rfl;have f35:w5.frozen? ⟨wb,3,none⟩=false:=free_of hA5.2.1;clear hA5 HA5))
 have hs3:=HFQ.out.size
 have hwlt:wb<w.heap.size:=blk_lt HW.out
 have hglt:g<w.heap.size:=(World.ownsRow.lt hU g rfl).2
 have hsz3:w.heap.size<wq.heap.size:=blk_lt HRB3.out
 have hW6:=HB5.out.2.1.done (.slice p1 p2 p3)
 have hf6:=fr_set w5 wb 3 (.slice p1 p2 p3)
 have hU6:OwnI (w5.setCell ⟨wb,3,none⟩ (.slice p1 p2 p3)) B (.slice (some ⟨g,0,none⟩) n c) uu:=own_fr HB5.out.2.2.1 hf6 fun b hb e=>HB5.out.2.1.ne HB5.out.2.2.1 hb e
 have hO6:OwnI (w5.setCell ⟨wb,3,none⟩ (.slice p1 p2 p3)) B (.slice p1 p2 p3) (dn++(uu.drop room).take 1):=own_fr HB5.out.1 hf6 fun b hb e=>HB5.out.2.1.ne HB5.out.1 hb e
 have hz5:wq.heap.size≤w5.heap.size:=HB5.out.2.2.2.1.size
 have hI6:IR (w5.setCell ⟨wb,3,none⟩ (.slice p1 p2 p3)) (.slice none 0 0) ([]):=(HJQ.out.1.fr HB5.out.2.2.2.1 fun b hb e=>HJQ.out.2.2 b hb (hdlt b e)).fr hf6 fun b hb e=>HJQ.out.2.1 (by rw [hb,e])
 refine (swap_any (took:=1) (bl:=[]) (bv:=(.slice none 0 0)) hW6 hU6 hul (by omega) hn8 hI6 HJQ.out.2.1 HLQ.out.2 (by simp [World.setCell];omega)).mono ?_
 rintro e w7 ⟨rfl,hQ⟩
 have hgb:∀ k,(Value.slice (some ⟨g,0,none⟩) n c).ownBlock=some k→k=g:=fun k hk=>by injection hk with hk;exact hk.symm
 have ht7:w7.heap[wq.heap.size]? = some (.cells #[.int .i64 (-1),.int .i64 (dn.length:Int),.int .i64 ((n - room:Nat):Int),.int .i64 1,.int .i64 1,.int .i64 0] 126 (0,0)):=by
  have h1:=HB5.out.2.2.2.2.1
  have h2:=(hf6.block _ (blk_lt h1) (by omega)).trans h1
  refine (hQ.fr.block _ (blk_lt h2) ?_).trans h2
  rintro (e | e)
  · omega
  · have:=hgb _ e;omega
 have hr7:w7.heap[w.heap.size]? = some (.cells #[.int .i64 0,.int .i64 0,.int .i64 0,.int .i64 0,.int .i64 0,.int .i64 0] 126 (0,0)):=by
  have h1:=(HB5.out.2.2.2.1.block _ hsz3 fun e=>by have:=(World.ownsRow.lt hD _ e).2;omega).trans HRB3.out
  have h2:=(hf6.block _ (blk_lt h1) (by omega)).trans h1
  refine (hQ.fr.block _ (blk_lt h2) ?_).trans h2
  rintro (e | e)
  · omega
  · have:=hgb _ e;omega
 have t0:w7.cell? ⟨wq.heap.size,0,none⟩=some (.int .i64 (-1)):=(cell_of ht7).trans rfl
 have t1:w7.cell? ⟨wq.heap.size,1,none⟩=some (.int .i64 (dn.length:Int)):=(cell_of ht7).trans rfl
 have t2:w7.cell? ⟨wq.heap.size,2,none⟩=some (.int .i64 ((n - room:Nat):Int)):=(cell_of ht7).trans rfl
 have t3:w7.cell? ⟨wq.heap.size,3,none⟩=some (.int .i64 1):=(cell_of ht7).trans rfl
 have t4:w7.cell? ⟨wq.heap.size,4,none⟩=some (.int .i64 1):=(cell_of ht7).trans rfl
 have t5:w7.cell? ⟨wq.heap.size,5,none⟩=some (.int .i64 0):=(cell_of ht7).trans rfl
 have HQ:=Hid.mk' hQ
 have HO6:=Hid.mk' hO6
 have r0:w7.cell? ⟨w.heap.size,0,none⟩=some (.int .i64 0):=(cell_of hr7).trans rfl
 have r1:w7.cell? ⟨w.heap.size,1,none⟩=some (.int .i64 0):=(cell_of hr7).trans rfl
 have r2:w7.cell? ⟨w.heap.size,2,none⟩=some (.int .i64 0):=(cell_of hr7).trans rfl
 have r3:w7.cell? ⟨w.heap.size,3,none⟩=some (.int .i64 0):=(cell_of hr7).trans rfl
 have r4:w7.cell? ⟨w.heap.size,4,none⟩=some (.int .i64 0):=(cell_of hr7).trans rfl
 have r5:w7.cell? ⟨w.heap.size,5,none⟩=some (.int .i64 0):=(cell_of hr7).trans rfl
 have f0:=free_of (j:=0) hr7
 have f1:=free_of (j:=1) hr7
 have f2:=free_of (j:=2) hr7
 have f3:=free_of (j:=3) hr7
 have f4:=free_of (j:=4) hr7
 have f5:=free_of (j:=5) hr7
 have HR7:=Hid.mk' hr7
 clear hQ ht7 hr7 hO6 hU6 hf6 hW6 hgb e35 f35 c34 hI6
 go_wp2
 refine ret_st rfl rfl (set_heap (set_heap (set_heap (set_heap (set_heap (set_heap HR7.out)))))) ?_
 have hNx:NxW w w3 B mb N rs d f':=⟨HX3.out.map,HX3.out.fi,HF3.out⟩
 have hFr6:Fr w3 (w5.setCell ⟨wb,3,none⟩ (.slice p1 p2 p3)) fun k=>k=wb∨(Value.slice dva dn.length dvc).ownBlock=some k:=(H3Q.out.trans HB5.out.2.2.2.1 fun _ _ e => .inr e).trans (fr_set _ _ _ _) fun _ _ e => .inl e
 have hblk:(Value.slice p1 p2 p3).ownBlock=(Value.slice dva dn.length dvc).ownBlock∨∃ g,(Value.slice p1 p2 p3).ownBlock=some g∧w3.heap.size≤g:=HB5.out.2.2.2.2.2.imp id fun ⟨g,e1,e2⟩=>⟨g,e1,Nat.le_trans H3Q.out.size e2⟩
 refine ⟨w3,f',_,_,w7,rfl,hNx,HFM.out,HR3Q.out,HO6.out,hblk,hFr6,HQ.out,?_⟩
 exact ((((((fr_set _ _ _ _).trans (fr_set _ _ _ _) fun _ _ e=>e).trans (fr_set _ _ _ _) fun _ _ e=>e).trans (fr_set _ _ _ _) fun _ _ e=>e).trans (fr_set _ _ _ _) fun _ _ e=>e).trans (fr_set _ _ _ _) fun _ _ e=>e)
end Go.Proofs
