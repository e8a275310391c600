/-
  A region that draws its order, whose operations lay blocks: what is known of a value may speak of the values that its operation waits for.
-/
import Derived.Test.YtibgnkpagfpinaaGreatDoorGit
namespace Go.Proofs
open Go.RowKit
def depB (o:Oper) (j:Nat):Bool:=o.after.any fun e=>Region.binds .any e && e.on == j
end Go.Proofs
