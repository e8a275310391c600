/-
  Rules, rows of sets, pieces and numbers that came in, as the walks want them; how great they are.
-/
import Derived.Deep.SlicePairs
import Derived.SizedLaws
import Derived.Test.YtpopemkhhdekcaaDoorWdp
import Derived.Test.YtpopemkhhdekcaaDoorXyp
namespace Go.Proofs.YtpopemkhhdekcaaDoor
open Go.ChangeShapes Go.WideShapes Go.ChangeAt Go.RowKit Go.WideMaps Go.WideElems Go.Deep
set_option maxRecDepth 100000
section
variable {H:Type} {enc:TypeId × Value→H} {W:World}
instance:Inhabited Pc:=⟨⟨0,0,0,[]⟩⟩
end
end Go.Proofs.YtpopemkhhdekcaaDoor
