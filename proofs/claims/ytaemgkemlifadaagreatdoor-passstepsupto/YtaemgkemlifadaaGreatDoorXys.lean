/-
  A row of ranges that came in, as the walks want it.
-/
import Derived.Deep.SlicePairs
import Derived.Test.YtaemgkemlifadaaGreatDoorVbs
import Derived.Test.YtaemgkemlifadaaGreatDoorXzs
namespace Go.Proofs.YtaemgkemlifadaaGreatDoor
open Go.ChangeShapes Go.WideShapes Go.ChangeAt Go.RowKit Go.WideMaps Go.WideElems
theorem laidOut:laidOutB Tryz.prog=true:=by kernel_rfl
end Go.Proofs.YtaemgkemlifadaaGreatDoor
