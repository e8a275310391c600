/-
  A pass that came in, as the walks want it; how long its lists may be.
-/
import Derived.Test.YtibgnkpagfpinaaGreatDoorXwt
import Derived.Test.YtibgnkpagfpinaaGreatDoorMgat
namespace Go.Proofs.YtibgnkpagfpinaaGreatDoor
open Go.ChangeShapes Go.WideShapes Go.ChangeAt Go.RowKit Go.WideMaps Go.WideElems Go.Deep
set_option maxRecDepth 100000
section
variable {H:Type} {enc:TypeId × Value→H} {W:World}
instance:Inhabited Rl:=⟨⟨false,false,0,[],[],[],[]⟩⟩
end
end Go.Proofs.YtibgnkpagfpinaaGreatDoor
