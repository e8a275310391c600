/-
  The library's contract of sort.Search, laid at this program by the shelf's tool.
-/
import Derived.Shelf.SlSorted.Search
import Derived.Test.YtpopemkhhdekcaaDoorProg
namespace Go.Proofs
open Go.Shelf
def Tryd.search_ren:Go.Shelf.Ren:=⟨fun | 16=>117 | n=>n,fun | 3=>3 | 35=>102 | 4=>4 | 38=>100 | n=>n,fun | n=>n⟩
theorem Tryd.search:Go.Proofs.SlLaysO.n16 Tryd.prog Tryd.search_ren := {
 mixed:=by kernel_rfl
 f16:=Tryd.func117.trans (congrArg some (by kernel_rfl))
 t3:=Tryd.underlying3
 a3:=Tryd.isAgg3
 z3:=Tryd.sizeOf3
 v3:=Tryd.zeroValue3
 t4:=Tryd.underlying4
 a4:=Tryd.isAgg4
 z4:=Tryd.sizeOf4
 v4:=Tryd.zeroValue4
 t35:=Tryd.underlying102
 a35:=Tryd.isAgg102
 z35:=Tryd.sizeOf102
 v35:=Tryd.zeroValue102
 t38:=Tryd.underlying100
 a38:=Tryd.isAgg100
 z38:=Tryd.sizeOf100
 v38:=Tryd.zeroValue100 }
end Go.Proofs
