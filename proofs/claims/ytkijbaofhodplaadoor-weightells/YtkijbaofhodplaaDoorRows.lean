/-
  NARROWER THAN 'FOR EVERY INPUT', by the rows' own cells (each row's printed sentence says how): WeighTells: laid · WeighEnds: laid · WeighFair: laid · WeighNames: laid.
  DERIVED. THE GIVEN ROWS OF THIS SEAT. 4 by the template 'for every input the law returns true; each argument reads behind the call as it read before'; 0 by the template 'total and deterministic' (their statements: YtkijbaofhodplaaDoorTotals.lean).
  GIVEN WITH THE SEED: the statements are not yours to turn. If you find one false, say at which input.
  Laid BY PROGRAM, IN A SANDBOX (cutbox-rows.mjs): the forced cells as the released guide's own fill.sh prints them over the translation a25afeadab76d25c… (all of the seat's roots in one cut). By AI agents, Wed Nov 11 2026. No macro, syntax, notation, axiom, sorry.
-/
import Derived.Test.YtkijbaofhodplaaDoorChecked
import GoSem.Claim
import GoSem.ClaimJoined
import GoSem.ClaimMapViews
import Derived.JoinedTies
import Derived.KernelRfl
namespace Go.Proofs.YtkijbaofhodplaaDoor
/- THE CELL 'sum', in the pinned program and in every row, IS THE sha256 OF THE DUMP (.gsa) THAT YtkijbaofhodplaaDoorProg.lean LOADS. Nothing in Lean hashes anything: it is a label: what it is worth is what the hold of that sum in a sandbox is worth. -/
noncomputable def Tryd.pinned : Pinned := { name := "ytkijbaofhodplaadoor", sum := "a25afeadab76d25cd353868a0f9c366f96f6009555b9f79913980e90876cc00c", checked := Tryd.checked }
namespace Rows
def none {H : Type} : Left H := { results := [], args := [] }

/- WHAT THE LISTED PACKAGE-LEVEL VARIABLES READ AS WHEN THE CALL BEGINS. Each datum BY PROGRAM (the guide's laid-datum.mjs) off the statement by which the dump's own 'gosem.cut.vars' lays the variable. In a bare row this is a premise. The card (YtkijbaofhodplaaDoorCards.lean) ties it to the program's text. -/
def laid_respell_set_blocks {H : Type} : DataW H := .agg [.agg [.lit (.int .i64 0), .lit (.int .i64 55295)], .agg [.lit (.int .i64 57344), .lit (.int .i64 1114111)], .agg [.lit (.int .i64 1114240), .lit (.int .i64 1114367)]]

/-- 'respelllaw08.WeighTells': WHATEVER THE INPUT: true; the input reads as it did. -/
def weighTellsSpec : ChangeSpec := { name := "weighTells", fn := fun _ => fun
  | [d1, d2, d3] => { results := [.lit (.bool true)], args := [d1, d2, d3] }
  | _ => none }
def weighTellsRow : OpenClaim := { program := "ytkijbaofhodplaadoor", sum := "a25afeadab76d25cd353868a0f9c366f96f6009555b9f79913980e90876cc00c", func := "respell/respelllaw08.WeighTells", spec := "weighTells", unfollowed := true, recurses := true, named := ["respell/set.blocks"], apart := false, laid := [("respell/set.blocks", laid_respell_set_blocks)] }
def WeighTellsSaid : Prop := weighTellsRow.holds Tryd.pinned (OpenSpec.ofChange weighTellsSpec)

/-- ITS FALSE NEIGHBOUR: 'it returns false'. Refute it at one input. -/
def weighTellsWrong : ChangeSpec := { name := "weighTells", fn := fun _ => fun
  | [d1, d2, d3] => { results := [.lit (.bool false)], args := [d1, d2, d3] }
  | _ => none }
def WeighTellsWrongFalsely : Prop := weighTellsRow.holds Tryd.pinned (OpenSpec.ofChange weighTellsWrong)

/-- 'respelllaw08.WeighEnds': WHATEVER THE INPUT: true; the input reads as it did. -/
def weighEndsSpec : ChangeSpec := { name := "weighEnds", fn := fun _ => fun
  | [d1, d2] => { results := [.lit (.bool true)], args := [d1, d2] }
  | _ => none }
def weighEndsRow : OpenClaim := { program := "ytkijbaofhodplaadoor", sum := "a25afeadab76d25cd353868a0f9c366f96f6009555b9f79913980e90876cc00c", func := "respell/respelllaw08.WeighEnds", spec := "weighEnds", unfollowed := true, recurses := true, named := ["respell/set.blocks"], apart := false, laid := [("respell/set.blocks", laid_respell_set_blocks)] }
def WeighEndsSaid : Prop := weighEndsRow.holds Tryd.pinned (OpenSpec.ofChange weighEndsSpec)

/-- ITS FALSE NEIGHBOUR: 'it returns false'. Refute it at one input. -/
def weighEndsWrong : ChangeSpec := { name := "weighEnds", fn := fun _ => fun
  | [d1, d2] => { results := [.lit (.bool false)], args := [d1, d2] }
  | _ => none }
def WeighEndsWrongFalsely : Prop := weighEndsRow.holds Tryd.pinned (OpenSpec.ofChange weighEndsWrong)

/-- 'respelllaw08.WeighFair': WHATEVER THE INPUT: true; the input reads as it did. -/
def weighFairSpec : ChangeSpec := { name := "weighFair", fn := fun _ => fun
  | [d1, d2] => { results := [.lit (.bool true)], args := [d1, d2] }
  | _ => none }
def weighFairRow : OpenClaim := { program := "ytkijbaofhodplaadoor", sum := "a25afeadab76d25cd353868a0f9c366f96f6009555b9f79913980e90876cc00c", func := "respell/respelllaw08.WeighFair", spec := "weighFair", unfollowed := true, recurses := true, named := ["respell/set.blocks"], apart := false, laid := [("respell/set.blocks", laid_respell_set_blocks)] }
def WeighFairSaid : Prop := weighFairRow.holds Tryd.pinned (OpenSpec.ofChange weighFairSpec)

/-- ITS FALSE NEIGHBOUR: 'it returns false'. Refute it at one input. -/
def weighFairWrong : ChangeSpec := { name := "weighFair", fn := fun _ => fun
  | [d1, d2] => { results := [.lit (.bool false)], args := [d1, d2] }
  | _ => none }
def WeighFairWrongFalsely : Prop := weighFairRow.holds Tryd.pinned (OpenSpec.ofChange weighFairWrong)

/-- 'respelllaw08.WeighNames': WHATEVER THE INPUT: true; the input reads as it did. -/
def weighNamesSpec : ChangeSpec := { name := "weighNames", fn := fun _ => fun
  | [] => { results := [.lit (.bool true)], args := [] }
  | _ => none }
def weighNamesRow : OpenClaim := { program := "ytkijbaofhodplaadoor", sum := "a25afeadab76d25cd353868a0f9c366f96f6009555b9f79913980e90876cc00c", func := "respell/respelllaw08.WeighNames", spec := "weighNames", unfollowed := true, recurses := true, named := ["respell/set.blocks"], apart := false, laid := [("respell/set.blocks", laid_respell_set_blocks)] }
def WeighNamesSaid : Prop := weighNamesRow.holds Tryd.pinned (OpenSpec.ofChange weighNamesSpec)

/-- ITS FALSE NEIGHBOUR: 'it returns false'. Refute it at one input. -/
def weighNamesWrong : ChangeSpec := { name := "weighNames", fn := fun _ => fun
  | [] => { results := [.lit (.bool false)], args := [] }
  | _ => none }
def WeighNamesWrongFalsely : Prop := weighNamesRow.holds Tryd.pinned (OpenSpec.ofChange weighNamesWrong)

/- THE SECOND FORM. 'bulk': how many values and letters a reading holds, each counted each time it is reached (what is shared counts as often as it is met; a slice's spare places count too). A statement '..UptoSaid' is the law's where the arguments, and the package variables that the reading takes, are together of bulk at most 1048576: NARROWER than '..Said'. Prove '..Said' where nothing that the law and all that it calls make is longer than what came in: it says more and counts as full. Else prove '..UptoSaid'. A law counts once. -/
mutual
def uptoBulk {H : Type} : DataW H → Nat
  | .lit (.string bytes) => bytes.length + 1
  | .lit _ => 1
  | .nil => 1
  | .ptr d => uptoBulk d + 1
  | .slice elems spare => uptoBulkAll elems + uptoBulkAll spare + 1
  | .agg parts => uptoBulkAll parts + 1
  | .iface _ d => uptoBulk d + 1
  | .map entries => uptoBulkEntries entries + 1
  | .held _ => 1
def uptoBulkAll {H : Type} : List (DataW H) → Nat
  | [] => 0
  | d :: r => uptoBulk d + uptoBulkAll r
def uptoBulkEntries {H : Type} : List (Lit × DataW H) → Nat
  | [] => 0
  | x :: r => uptoBulkEntry x + uptoBulkEntries r
def uptoBulkEntry {H : Type} : Lit × DataW H → Nat
  | (.string bytes, d) => bytes.length + uptoBulk d + 1
  | (_, d) => uptoBulk d + 1
 end
def uptoSmall : (H : Type) → List (DataW H) → Bool := fun _ ds => decide (uptoBulkAll ds ≤ 1048576)
def OpenSpec.upto (s : _root_.Go.ChangeSpec) : _root_.Go.OpenSpec := { _root_.Go.OpenSpec.ofChange s with cond := some uptoSmall }

/-- 'respelllaw08.WeighTells', WHERE WHAT IT READS IS OF BULK AT MOST 1048576: true; the input reads as it did. -/
def weighTellsUptoRow : OpenClaim := { program := "ytkijbaofhodplaadoor", sum := "a25afeadab76d25cd353868a0f9c366f96f6009555b9f79913980e90876cc00c", func := "respell/respelllaw08.WeighTells", spec := "weighTells", unfollowed := true, recurses := true, named := ["respell/set.blocks"], apart := false, laid := [("respell/set.blocks", laid_respell_set_blocks)], narrowed := true }
def WeighTellsUptoSaid : Prop := weighTellsUptoRow.holds Tryd.pinned (OpenSpec.upto weighTellsSpec)

/-- 'respelllaw08.WeighEnds', WHERE WHAT IT READS IS OF BULK AT MOST 1048576: true; the input reads as it did. -/
def weighEndsUptoRow : OpenClaim := { program := "ytkijbaofhodplaadoor", sum := "a25afeadab76d25cd353868a0f9c366f96f6009555b9f79913980e90876cc00c", func := "respell/respelllaw08.WeighEnds", spec := "weighEnds", unfollowed := true, recurses := true, named := ["respell/set.blocks"], apart := false, laid := [("respell/set.blocks", laid_respell_set_blocks)], narrowed := true }
def WeighEndsUptoSaid : Prop := weighEndsUptoRow.holds Tryd.pinned (OpenSpec.upto weighEndsSpec)

/-- 'respelllaw08.WeighFair', WHERE WHAT IT READS IS OF BULK AT MOST 1048576: true; the input reads as it did. -/
def weighFairUptoRow : OpenClaim := { program := "ytkijbaofhodplaadoor", sum := "a25afeadab76d25cd353868a0f9c366f96f6009555b9f79913980e90876cc00c", func := "respell/respelllaw08.WeighFair", spec := "weighFair", unfollowed := true, recurses := true, named := ["respell/set.blocks"], apart := false, laid := [("respell/set.blocks", laid_respell_set_blocks)], narrowed := true }
def WeighFairUptoSaid : Prop := weighFairUptoRow.holds Tryd.pinned (OpenSpec.upto weighFairSpec)

/-- 'respelllaw08.WeighNames', WHERE WHAT IT READS IS OF BULK AT MOST 1048576: true; the input reads as it did. -/
def weighNamesUptoRow : OpenClaim := { program := "ytkijbaofhodplaadoor", sum := "a25afeadab76d25cd353868a0f9c366f96f6009555b9f79913980e90876cc00c", func := "respell/respelllaw08.WeighNames", spec := "weighNames", unfollowed := true, recurses := true, named := ["respell/set.blocks"], apart := false, laid := [("respell/set.blocks", laid_respell_set_blocks)], narrowed := true }
def WeighNamesUptoSaid : Prop := weighNamesUptoRow.holds Tryd.pinned (OpenSpec.upto weighNamesSpec)

end Rows
end Go.Proofs.YtkijbaofhodplaaDoor
