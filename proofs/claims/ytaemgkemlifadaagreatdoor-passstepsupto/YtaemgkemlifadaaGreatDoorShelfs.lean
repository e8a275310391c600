/-
  The library's contract of sort.Search, laid at this program by the shelf's tool.
-/
import Derived.Shelf.SlSorted.Search
import Derived.Test.YtaemgkemlifadaaGreatDoorProg
namespace Go.Proofs
open Go.Shelf
def Tryz.search_ren:Go.Shelf.Ren:=⟨fun | 16=>143 | n=>n,fun | 3=>3 | 35=>133 | 4=>4 | 38=>180 | n=>n,fun | n=>n⟩
theorem Tryz.search:Go.Proofs.SlLaysO.n16 Tryz.prog Tryz.search_ren := {
 mixed:=by kernel_rfl
 f16:=Tryz.func143.trans (congrArg some (by kernel_rfl))
 t3:=Tryz.underlying3
 a3:=Tryz.isAgg3
 z3:=Tryz.sizeOf3
 v3:=Tryz.zeroValue3
 t4:=Tryz.underlying4
 a4:=Tryz.isAgg4
 z4:=Tryz.sizeOf4
 v4:=Tryz.zeroValue4
 t35:=Tryz.underlying133
 a35:=Tryz.isAgg133
 z35:=Tryz.sizeOf133
 v35:=Tryz.zeroValue133
 t38:=Tryz.underlying180
 a38:=Tryz.isAgg180
 z38:=Tryz.sizeOf180
 v38:=Tryz.zeroValue180 }
end Go.Proofs
