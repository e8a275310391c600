/-
  A row of ranges that came in, as the walks want it.
-/
import Derived.Deep.SlicePairs
import Derived.Test.YtibgnkpagfpinaaGreatDoorVbt
import Derived.Test.YtibgnkpagfpinaaGreatDoorXzt
namespace Go.Proofs.YtibgnkpagfpinaaGreatDoor
open Go.ChangeShapes Go.WideShapes Go.ChangeAt Go.RowKit Go.WideMaps Go.WideElems
theorem laidOut:laidOutB Tryz.prog=true:=by kernel_rfl
end Go.Proofs.YtibgnkpagfpinaaGreatDoor
