/-
  What rules write, by thinking.
-/
import Derived.RangeFuncNested
import Derived.RangeFuncBound
import Derived.RangeFuncCalls
import Derived.RangeFuncLeaves
import Derived.Shelf.Abstract
import Derived.Shelf.RegionOpen
import Derived.WalkKit
import Derived.WalkSpells
import Derived.WalkLawsBesides
import Derived.OwnWalkIn
import Derived.TacticsInMore
import Derived.LoopNIn
import Derived.LoopIn
import Derived.BigQuiet
import Derived.RegionIn
import Derived.Deep.QuietTactic
import Derived.Deep.RegionWith
import Derived.Lib.OthersKept
import Derived.Maps.AppendAt
import Derived.Lib.SmallJoins
import Derived.Shelf.SlSortCmp.QuietGrown
import Derived.Test.YtibgnkpagfpinaaGreatDoorWet
import Derived.Test.YtibgnkpagfpinaaGreatDoorMat
namespace Go.Proofs
open Go.RowKit Go.Shelf
set_option maxRecDepth 100000
attribute [local go_sem] Oper.semAt_some
attribute [local go_sem ↓] Go.wp_at_zero Go.wp_at_succ
def nthV (r:Option Int):Value := .tuple #[.int .i64 (r.getD 0),.bool r.isSome]
def partU (f t:List (Int × Int)) (u:Int):Int:=(nthU t (if hasB f u then placeU f u else 0)).getD 0
theorem place_bound {l:List (Int × Int)} (hv:validB l=true) {u:Int} (hu:hasU l u):0≤placeU l u∧placeU l u≤9223372036854775807:=by
 have hv':=(validB_iff l).1 hv
 have h1:=(nth_place hv'.2 hu).2
 refine ⟨h1,?_⟩
 have hlt:fnd l u<l.length:=by
  have h1:=fnd_le l u
  by_cases e:fnd l u=l.length
  · exact absurd hu (hasU_end hv'.2 e)
  · omega
 have h2:=(hasU_in hv'.2 hlt).1 hu
 have h3:¬ (rg l (fnd l u)).2<u:=fun e=>by have:=(fnd_lt hv'.2 u hlt).2 e;omega
 have h4:=(good_at hv'.2 hlt).2
 have h5:=(good_at hv'.2 hlt).1
 have h6:=tot_bound (l:=l.take (fnd l u)) (fun x hx=>hv'.2.1 x (List.mem_of_mem_take hx))
 rw [List.length_take] at h6
 have h7:=hv'.1
 unfold placeU
 omega
def unitAt (us:List Int) (y:Int):Int:=us[y.toNat]?.getD 0
def wrt (key:List (List (Int × Int))) (us:List Int) (p:Pc):Int:=
 if p.k=3 then partU (keyAt key p.y) p.tl (unitAt us p.y) else if p.k=2 then unitAt us p.y else p.u
def layB (r:Rl) (us:List Int):Bool:=decide (chk r=0) && stB r.key us
def outs (r:Rl) (us:List Int):List Int:=r.res.map (wrt r.key us)
theorem st_len {ls:List (List (Int × Int))} {us:List Int} (h:stB ls us=true):ls.length=us.length:=by
 simp only [stB,Bool.and_eq_true,decide_eq_true_eq] at h
 exact h.1
theorem IR.drop {w:World} {a:Option Addr} {n c cn:Nat} {l:List Int} (h:IR w (.slice a n c) l) (hl:l.length=n) (hcn:cn≤n):IR w (.slice (a.map fun x=>x.add cn) (n - cn) (c - cn)) (l.drop cn):=by
 obtain ⟨a',c',e,hc,h⟩:=h
 injection e with e1 e2 e3
 subst e1 e3
 refine ⟨_,c - cn,by rw [List.length_drop,hl],by rw [List.length_drop];omega,?_⟩
 rcases h with rfl | ⟨g,o,rfl,h⟩
 · exact .inl (by simp)
 · refine .inr ⟨g,o+cn,?_,fun j hj => ?_⟩
   · simp only [Option.map_some,Option.some.injEq]
     unfold Addr.add
     split <;> simp_all
   · rw [List.length_drop] at hj
     have:=h (cn+j) (by omega)
     rw [List.getElem_drop,Nat.add_assoc]
     exact this
theorem outs_succ {r:Rl} {us:List Int} {k:Nat} (hk:k<r.res.length):(outs r us).take (k+1)=(outs r us).take k++[wrt r.key us r.res[k]]:=by
 have:k<(outs r us).length:=by simpa [outs] using hk
 rw [List.take_succ_eq_append_getElem this]
 simp [outs]
end Go.Proofs
