/-
  Several texts in one (Xzr Xyr Xwr Mgfr Rar Rbr Rcr).
-/
import Derived.Test.YtcfcjljapamcoabGreatDoorCards
import Derived.Test.YtcfcjljapamcoabGreatDoorTie
import Derived.WalkKit
import Derived.ProofKit
import Derived.OpenShut
import Derived.Deep.DeepHandedRow
import Derived.Lib.LaidTab
import Derived.Test.YtcfcjljapamcoabGreatDoorMpar
import Derived.Deep.SlicePairs
import Derived.Test.YtcfcjljapamcoabGreatDoorVbr
import Derived.SizedLaws
import Derived.Test.YtcfcjljapamcoabGreatDoorMpdr
import Derived.RangeFuncNested
import Derived.RangeFuncBound
import Derived.RangeFuncCalls
import Derived.RangeFuncLeaves
import Derived.Shelf.Abstract
import Derived.Shelf.RegionOpen
import Derived.WalkSpells
import Derived.WalkLawsBesides
import Derived.OwnWalkIn
import Derived.TacticsInMore
import Derived.LoopNIn
import Derived.LoopIn
import Derived.BigQuiet
import Derived.RegionIn
import Derived.Deep.QuietTactic
import Derived.Deep.RegionWith
import Derived.Lib.OthersKept
import Derived.Maps.AppendAt
import Derived.Lib.SmallJoins
import Derived.Shelf.SlSortCmp.QuietGrown
import Derived.Deep.AppendLies
import Derived.Deep.Upon
import Derived.Test.YtcfcjljapamcoabGreatDoorMger
import Derived.Test.YtcfcjljapamcoabGreatDoorMgar
import Derived.Test.YtcfcjljapamcoabGreatDoorMper
namespace Go.Proofs.YtcfcjljapamcoabGreatDoor
open Go.ChangeShapes Go.WideShapes Go.ChangeAt Go.RowKit
theorem own:ownKnob Tryz.prog.godebug=none:=by kernel_rfl
theorem gTab : Tryz.prog.globalNamed "respell/set.blocks" = some 0 := by kernel_rfl
theorem gTabType:(Tryz.prog.globals[0]?).map (·.type)=some 84:=by kernel_rfl
theorem cells84:Tryz.prog.cellsOf 84=6:=by kernel_rfl
theorem cells55:Tryz.prog.cellsOf 55=2:=by kernel_rfl
theorem cells3:Tryz.prog.cellsOf 3=1:=by kernel_rfl
set_option maxRecDepth 100000 in
theorem rowOf {H:Type} {enc:TypeId × Value→H} {W:World} {base:Nat} {sp:Nat→Bool} {held:Bool} {fuel:Nat} {cs:List Value} {a b:Int} {p:List MemPlace}
 (h:DataW.trod enc Tryz.prog W base sp held fuel 55 cs=some (.agg [.lit (.int .i64 a),.lit (.int .i64 b)],p)):cs=[.int .i64 a,.int .i64 b]:=by
 cases fuel with
 | zero=>simp [DataW.trod] at h
 | succ m=>
  simp only [DataW.trod,Tryz.underlying55] at h
  split at h
  · rename_i hl
    rw [cells55] at hl
    match cs,hl with
    | [c0,c1],_=>
     simp only [cells3,List.mapM_cons,List.mapM_nil,Option.bind_eq_bind,Option.bind_eq_some_iff,Option.map_eq_some_iff,Option.pure_def,Option.some.injEq,List.drop_zero,List.take_succ_cons,List.take_zero,List.drop_succ_cons] at h
     obtain ⟨xs,⟨x0,h0,xs1,⟨x1,h1,xs2,rfl,rfl⟩,rfl⟩,hx⟩:=h
     obtain ⟨n0,e0,rfl,_⟩:=DataW.trod_int Tryz.underlying3 h0
     obtain ⟨n1,e1,rfl,_⟩:=DataW.trod_int Tryz.underlying3 h1
     simp at e0 e1 hx
     obtain ⟨⟨rfl,rfl⟩,_⟩:=hx
     rw [e0,e1]
  · cases h
theorem split6 (l:List Value) (h:l.length=6):l=(l.drop (0*2)).take 2++((l.drop (1*2)).take 2++(l.drop (2*2)).take 2):=by
 match l,h with
 | [c0,c1,c2,c3,c4,c5],_=>rfl
set_option maxRecDepth 100000 in
theorem table {W : World} (h : laidMet Tryz.prog [("respell/set.blocks", Rows.laid_respell_set_blocks)] W) : Tab W := by
 obtain ⟨ps,⟨g',t',cs,fuel,p,q,hg',ht',hvar,hd,_,_⟩,_⟩:=h
 obtain rfl:=Option.some.inj (gTab.symm.trans hg')
 obtain rfl:=Option.some.inj (gTabType.symm.trans ht')
 obtain ⟨xs,m,rfl,hx,hl,hn,hi⟩:=DataW.trod_array Tryz.underlying84 hd
 rw [cells84] at hl
 rw [cells55] at hi
 have hx1:=(Prod.mk.inj hx).1
 simp only [Rows.laid_respell_set_blocks] at hx1
 match xs,hn with
 | [x0,x1,x2],_=>
  obtain ⟨y0,p0⟩:=x0
  obtain ⟨y1,p1⟩:=x1
  obtain ⟨y2,p2⟩:=x2
  simp only [List.map_cons,List.map_nil,DataW.agg.injEq,List.cons.injEq,and_true] at hx1
  obtain ⟨rfl,rfl,rfl⟩:=hx1
  have r0:=rowOf (hi 0 (by omega))
  have r1:=rowOf (hi 1 (by omega))
  have r2:=rowOf (hi 2 (by omega))
  have hcs:=split6 cs.toList hl
  rw [r0,r1,r2] at hcs
  have hca:cs=blkV:=by rw [←Array.toArray_toList (xs:=cs),hcs];rfl
  intro j v hv
  have hc:=World.var?_cell gTab hvar j
  rw [hc,hca]
  exact hv
end Go.Proofs.YtcfcjljapamcoabGreatDoor
namespace Go.Proofs.YtcfcjljapamcoabGreatDoor
open Go.ChangeShapes Go.WideShapes Go.ChangeAt Go.RowKit Go.WideMaps Go.WideElems
end Go.Proofs.YtcfcjljapamcoabGreatDoor
namespace Go.Proofs.YtcfcjljapamcoabGreatDoor
open Go.ChangeShapes Go.WideShapes Go.ChangeAt Go.RowKit Go.WideMaps Go.WideElems Go.Deep
set_option maxRecDepth 100000
section
variable {H:Type} {enc:TypeId × Value→H} {W:World}
instance:Inhabited Pc:=⟨⟨0,0,0,[]⟩⟩
end
end Go.Proofs.YtcfcjljapamcoabGreatDoor
namespace Go.Proofs
open Go.RowKit Go.Shelf
set_option maxRecDepth 100000
attribute [local go_sem] Oper.semAt_some
attribute [local go_sem ↓] Go.wp_at_zero Go.wp_at_succ
section
variable {w0:World} {B rb i:Nat} {rv cv:Value} {C:List (Value × List (Pc × Value))} {R:List LRu} {W:World} {gv sv:Value} {G:List It} {S:List (Value × List It)}
end
section
variable {w:World} {base xb:Nat} {pv rv sv gv cv:Value} {G:List It} {S:List (Value × List It)} {C:List (Value × List (Pc × Value))} {R:List LRu} {re:List Value} {n:Nat}
end
def nthV (r:Option Int):Value := .tuple #[.int .i64 (r.getD 0),.bool r.isSome]
def partU (f t:List (Int × Int)) (u:Int):Int:=(nthU t (if hasB f u then placeU f u else 0)).getD 0
theorem place_bound {l:List (Int × Int)} (hv:validB l=true) {u:Int} (hu:hasU l u):0≤placeU l u∧placeU l u≤9223372036854775807:=by
 have hv':=(validB_iff l).1 hv
 have h1:=(nth_place hv'.2 hu).2
 refine ⟨h1,?_⟩
 have hlt:fnd l u<l.length:=by
  have h1:=fnd_le l u
  by_cases e:fnd l u=l.length
  · exact absurd hu (hasU_end hv'.2 e)
  · omega
 have h2:=(hasU_in hv'.2 hlt).1 hu
 have h3:¬ (rg l (fnd l u)).2<u:=fun e=>by have:=(fnd_lt hv'.2 u hlt).2 e;omega
 have h4:=(good_at hv'.2 hlt).2
 have h5:=(good_at hv'.2 hlt).1
 have h6:=tot_bound (l:=l.take (fnd l u)) (fun x hx=>hv'.2.1 x (List.mem_of_mem_take hx))
 rw [List.length_take] at h6
 have h7:=hv'.1
 unfold placeU
 omega
def unitAt (us:List Int) (y:Int):Int:=us[y.toNat]?.getD 0
def wrt (key:List (List (Int × Int))) (us:List Int) (p:Pc):Int:=
 if p.k=3 then partU (keyAt key p.y) p.tl (unitAt us p.y) else if p.k=2 then unitAt us p.y else p.u
def layB (r:Rl) (us:List Int):Bool:=decide (chk r=0) && stB r.key us
def outs (r:Rl) (us:List Int):List Int:=r.res.map (wrt r.key us)
theorem st_len {ls:List (List (Int × Int))} {us:List Int} (h:stB ls us=true):ls.length=us.length:=by
 simp only [stB,Bool.and_eq_true,decide_eq_true_eq] at h
 exact h.1
theorem IR.drop {w:World} {a:Option Addr} {n c cn:Nat} {l:List Int} (h:IR w (.slice a n c) l) (hl:l.length=n) (hcn:cn≤n):IR w (.slice (a.map fun x=>x.add cn) (n - cn) (c - cn)) (l.drop cn):=by
 obtain ⟨a',c',e,hc,h⟩:=h
 injection e with e1 e2 e3
 subst e1 e3
 refine ⟨_,c - cn,by rw [List.length_drop,hl],by rw [List.length_drop];omega,?_⟩
 rcases h with rfl | ⟨g,o,rfl,h⟩
 · exact .inl (by simp)
 · refine .inr ⟨g,o+cn,?_,fun j hj => ?_⟩
   · simp only [Option.map_some,Option.some.injEq]
     unfold Addr.add
     split <;> simp_all
   · rw [List.length_drop] at hj
     have:=h (cn+j) (by omega)
     rw [List.getElem_drop,Nat.add_assoc]
     exact this
theorem outs_succ {r:Rl} {us:List Int} {k:Nat} (hk:k<r.res.length):(outs r us).take (k+1)=(outs r us).take k++[wrt r.key us r.res[k]]:=by
 have:k<(outs r us).length:=by simpa [outs] using hk
 rw [List.take_succ_eq_append_getElem this]
 simp [outs]
end Go.Proofs
namespace Go.Proofs
open Go.RowKit Go.Shelf
set_option maxRecDepth 100000
attribute [local go_sem] Oper.semAt_some
def wB (a b:Int):Nat→Bool
 | 0=>false
 | k+1=>wB a b k || (decide (blkLo k≤a) && decide (b≤blkHi k) && decide (a≤b))
end Go.Proofs
namespace Go.Proofs
open Go.RowKit Go.Shelf
set_option maxRecDepth 100000
attribute [local go_sem] Oper.semAt_some
end Go.Proofs
namespace Go.Proofs
open Go.RowKit Go.Shelf
set_option maxRecDepth 100000
attribute [local go_sem] Oper.semAt_some
def isU (u:Int):Prop:=(0≤u∧u≤55295)∨(57344≤u∧u≤1114111)∨(1114240≤u∧u≤1114367)
theorem good_units {r:List (Int × Int)} (h:Good r) {u:Int} (hu:hasU r u):isU u:=by
 obtain ⟨x,hx,h1,h2⟩:=hu
 have:=(h.1 x hx).2
 unfold isU;omega
theorem nth_over:∀ (l:List (Int × Int)) (n:Int),(∀ y∈l,Whole y)→tot l≤n→nthL l n=none
 | [],_,_,_=>rfl
 | x::l,n,hw,h=>by
  rw [tot_cons] at h
  have hw':∀ y∈l,Whole y:=fun y hy=>hw y (by simp [hy])
  have:=(tot_bound hw').1
  rw [nthL,if_neg (by omega)]
  exact nth_over l _ hw' (by omega)
end Go.Proofs
