/-
  Several texts in one (Xzn Xyn Xwn).
-/
import Derived.Test.YtcfcjljapamcoaaGreatDoorCards
import Derived.Test.YtcfcjljapamcoaaGreatDoorTie
import Derived.WalkKit
import Derived.ProofKit
import Derived.OpenShut
import Derived.Deep.DeepHandedRow
import Derived.Lib.LaidTab
import Derived.Test.YtcfcjljapamcoaaGreatDoorVan
import Derived.Deep.SlicePairs
import Derived.Test.YtcfcjljapamcoaaGreatDoorVbn
import Derived.SizedLaws
import Derived.Test.YtcfcjljapamcoaaGreatDoorMpcn
namespace Go.Proofs.YtcfcjljapamcoaaGreatDoor
open Go.ChangeShapes Go.WideShapes Go.ChangeAt Go.RowKit
theorem own:ownKnob Tryz.prog.godebug=none:=by kernel_rfl
theorem gTab : Tryz.prog.globalNamed "respell/set.blocks" = some 0 := by kernel_rfl
theorem gTabType:(Tryz.prog.globals[0]?).map (·.type)=some 119:=by kernel_rfl
theorem cells119:Tryz.prog.cellsOf 119=6:=by kernel_rfl
theorem cells67:Tryz.prog.cellsOf 67=2:=by kernel_rfl
theorem cells3:Tryz.prog.cellsOf 3=1:=by kernel_rfl
set_option maxRecDepth 100000 in
theorem rowOf {H:Type} {enc:TypeId × Value→H} {W:World} {base:Nat} {sp:Nat→Bool} {held:Bool} {fuel:Nat} {cs:List Value} {a b:Int} {p:List MemPlace}
 (h:DataW.trod enc Tryz.prog W base sp held fuel 67 cs=some (.agg [.lit (.int .i64 a),.lit (.int .i64 b)],p)):cs=[.int .i64 a,.int .i64 b]:=by
 cases fuel with
 | zero=>simp [DataW.trod] at h
 | succ m=>
  simp only [DataW.trod,Tryz.underlying67] at h
  split at h
  · rename_i hl
    rw [cells67] at hl
    match cs,hl with
    | [c0,c1],_=>
     simp only [cells3,List.mapM_cons,List.mapM_nil,Option.bind_eq_bind,Option.bind_eq_some_iff,Option.map_eq_some_iff,Option.pure_def,Option.some.injEq,List.drop_zero,List.take_succ_cons,List.take_zero,List.drop_succ_cons] at h
     obtain ⟨xs,⟨x0,h0,xs1,⟨x1,h1,xs2,rfl,rfl⟩,rfl⟩,hx⟩:=h
     obtain ⟨n0,e0,rfl,_⟩:=DataW.trod_int Tryz.underlying3 h0
     obtain ⟨n1,e1,rfl,_⟩:=DataW.trod_int Tryz.underlying3 h1
     simp at e0 e1 hx
     obtain ⟨⟨rfl,rfl⟩,_⟩:=hx
     rw [e0,e1]
  · cases h
theorem split6 (l:List Value) (h:l.length=6):l=(l.drop (0*2)).take 2++((l.drop (1*2)).take 2++(l.drop (2*2)).take 2):=by
 match l,h with
 | [c0,c1,c2,c3,c4,c5],_=>rfl
set_option maxRecDepth 100000 in
theorem table {W : World} (h : laidMet Tryz.prog [("respell/set.blocks", Rows.laid_respell_set_blocks)] W) : Tab W := by
 obtain ⟨ps,⟨g',t',cs,fuel,p,q,hg',ht',hvar,hd,_,_⟩,_⟩:=h
 obtain rfl:=Option.some.inj (gTab.symm.trans hg')
 obtain rfl:=Option.some.inj (gTabType.symm.trans ht')
 obtain ⟨xs,m,rfl,hx,hl,hn,hi⟩:=DataW.trod_array Tryz.underlying119 hd
 rw [cells119] at hl
 rw [cells67] at hi
 have hx1:=(Prod.mk.inj hx).1
 simp only [Rows.laid_respell_set_blocks] at hx1
 match xs,hn with
 | [x0,x1,x2],_=>
  obtain ⟨y0,p0⟩:=x0
  obtain ⟨y1,p1⟩:=x1
  obtain ⟨y2,p2⟩:=x2
  simp only [List.map_cons,List.map_nil,DataW.agg.injEq,List.cons.injEq,and_true] at hx1
  obtain ⟨rfl,rfl,rfl⟩:=hx1
  have r0:=rowOf (hi 0 (by omega))
  have r1:=rowOf (hi 1 (by omega))
  have r2:=rowOf (hi 2 (by omega))
  have hcs:=split6 cs.toList hl
  rw [r0,r1,r2] at hcs
  have hca:cs=blkV:=by rw [←Array.toArray_toList (xs:=cs),hcs];rfl
  intro j v hv
  have hc:=World.var?_cell gTab hvar j
  rw [hc,hca]
  exact hv
end Go.Proofs.YtcfcjljapamcoaaGreatDoor
namespace Go.Proofs.YtcfcjljapamcoaaGreatDoor
open Go.ChangeShapes Go.WideShapes Go.ChangeAt Go.RowKit Go.WideMaps Go.WideElems
end Go.Proofs.YtcfcjljapamcoaaGreatDoor
namespace Go.Proofs.YtcfcjljapamcoaaGreatDoor
open Go.ChangeShapes Go.WideShapes Go.ChangeAt Go.RowKit Go.WideMaps Go.WideElems Go.Deep
set_option maxRecDepth 100000
section
variable {H:Type} {enc:TypeId × Value→H} {W:World}
instance:Inhabited Pc:=⟨⟨0,0,0,[]⟩⟩
structure Small (r:Rl) (n:Nat):Prop where
 na:r.ante.length≤n
 sa:∀ l∈r.ante,l.length≤n
 nk:r.key.length≤n
 sk:∀ l∈r.key,l.length≤n
 np:r.post.length≤n
 sp:∀ l∈r.post,l.length≤n
 nr:r.res.length≤n
 sr:∀ p∈r.res,p.tl.length≤n
end
end Go.Proofs.YtcfcjljapamcoaaGreatDoor
