/-
  A row of ranges that came in, as the walks want it.
-/
import Derived.Deep.SlicePairs
import Derived.Test.YtpopemkhhdekcaaDoorVbp
import Derived.Test.YtpopemkhhdekcaaDoorXzp
namespace Go.Proofs.YtpopemkhhdekcaaDoor
open Go.ChangeShapes Go.WideShapes Go.ChangeAt Go.RowKit Go.WideMaps Go.WideElems
theorem laidOut:laidOutB Tryd.prog=true:=by kernel_rfl
end Go.Proofs.YtpopemkhhdekcaaDoor
