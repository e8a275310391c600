/-
  The library's contract of sort.Search, laid at this program by the shelf's tool.
-/
import Derived.Shelf.SlSorted.Search
import Derived.Test.YtibgnkpagfpinaaGreatDoorProg
namespace Go.Proofs
open Go.Shelf
def Tryz.search_ren:Go.Shelf.Ren:=⟨fun | 16=>102 | n=>n,fun | 3=>3 | 35=>128 | 4=>4 | 38=>142 | n=>n,fun | n=>n⟩
theorem Tryz.search:Go.Proofs.SlLaysO.n16 Tryz.prog Tryz.search_ren := {
 mixed:=by kernel_rfl
 f16:=Tryz.func102.trans (congrArg some (by kernel_rfl))
 t3:=Tryz.underlying3
 a3:=Tryz.isAgg3
 z3:=Tryz.sizeOf3
 v3:=Tryz.zeroValue3
 t4:=Tryz.underlying4
 a4:=Tryz.isAgg4
 z4:=Tryz.sizeOf4
 v4:=Tryz.zeroValue4
 t35:=Tryz.underlying128
 a35:=Tryz.isAgg128
 z35:=Tryz.sizeOf128
 v35:=Tryz.zeroValue128
 t38:=Tryz.underlying142
 a38:=Tryz.isAgg142
 z38:=Tryz.sizeOf142
 v38:=Tryz.zeroValue142 }
end Go.Proofs
