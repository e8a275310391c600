/-
  NARROWER THAN 'FOR EVERY INPUT', by the rows' own cells (each row's printed sentence says how): TraceBlocks: laid · TracePlaces: laid · TraceThrough: laid · TraceGaps: laid.
  DERIVED. THE GIVEN ROWS OF THIS SEAT. 4 by the template 'for every input the law returns true; each argument reads behind the call as it read before'; 0 by the template 'total and deterministic' (their statements: YtibgnkpagfpinaaGreatDoorTotals.lean).
  GIVEN WITH THE SEED: the statements are not yours to turn. If you find one false, say at which input.
  Laid BY PROGRAM, IN A SANDBOX (cutbox-rows.mjs): the forced cells as the released guide's own fill.sh prints them over the translation 48201b44e49610e4… (all of the seat's roots in one cut). By AI agents, Wed Nov 11 2026. No macro, syntax, notation, axiom, sorry.
-/
import Derived.Test.YtibgnkpagfpinaaGreatDoorChecked
import GoSem.Claim
import GoSem.ClaimJoined
import GoSem.ClaimMapViews
import Derived.JoinedTies
import Derived.KernelRfl
namespace Go.Proofs.YtibgnkpagfpinaaGreatDoor
/- THE CELL 'sum', in the pinned program and in every row, IS THE sha256 OF THE DUMP (.gsa) THAT YtibgnkpagfpinaaGreatDoorProg.lean LOADS. Nothing in Lean hashes anything: it is a label: what it is worth is what the hold of that sum in a sandbox is worth. -/
noncomputable def Tryz.pinned : Pinned := { name := "ytibgnkpagfpinaagreatdoor", sum := "48201b44e49610e4fb6c1418212e0ff18b11ea7e5843ba0377719f7d65793c14", checked := Tryz.checked }
namespace Rows
def none {H : Type} : Left H := { results := [], args := [] }

/- WHAT THE LISTED PACKAGE-LEVEL VARIABLES READ AS WHEN THE CALL BEGINS. Each datum BY PROGRAM (the guide's laid-datum.mjs) off the statement by which the dump's own 'gosem.cut.vars' lays the variable. In a bare row this is a premise. The card (YtibgnkpagfpinaaGreatDoorCards.lean) ties it to the program's text. -/
def laid_respell_set_blocks {H : Type} : DataW H := .agg [.agg [.lit (.int .i64 0), .lit (.int .i64 55295)], .agg [.lit (.int .i64 57344), .lit (.int .i64 1114111)], .agg [.lit (.int .i64 1114240), .lit (.int .i64 1114367)]]

/-- 'respelllaw13.TraceBlocks': WHATEVER THE INPUT: true; the input reads as it did. -/
def traceBlocksSpec : ChangeSpec := { name := "traceBlocks", fn := fun _ => fun
  | [d1, d2, d3] => { results := [.lit (.bool true)], args := [d1, d2, d3] }
  | _ => none }
def traceBlocksRow : OpenClaim := { program := "ytibgnkpagfpinaagreatdoor", sum := "48201b44e49610e4fb6c1418212e0ff18b11ea7e5843ba0377719f7d65793c14", func := "respell/respelllaw13.TraceBlocks", spec := "traceBlocks", unfollowed := true, recurses := true, named := ["respell/set.blocks"], apart := false, laid := [("respell/set.blocks", laid_respell_set_blocks)] }
def TraceBlocksSaid : Prop := traceBlocksRow.holds Tryz.pinned (OpenSpec.ofChange traceBlocksSpec)

/-- ITS FALSE NEIGHBOUR: 'it returns false'. Refute it at one input. -/
def traceBlocksWrong : ChangeSpec := { name := "traceBlocks", fn := fun _ => fun
  | [d1, d2, d3] => { results := [.lit (.bool false)], args := [d1, d2, d3] }
  | _ => none }
def TraceBlocksWrongFalsely : Prop := traceBlocksRow.holds Tryz.pinned (OpenSpec.ofChange traceBlocksWrong)

/-- 'respelllaw13.TracePlaces': WHATEVER THE INPUT: true; the input reads as it did. -/
def tracePlacesSpec : ChangeSpec := { name := "tracePlaces", fn := fun _ => fun
  | [d1, d2] => { results := [.lit (.bool true)], args := [d1, d2] }
  | _ => none }
def tracePlacesRow : OpenClaim := { program := "ytibgnkpagfpinaagreatdoor", sum := "48201b44e49610e4fb6c1418212e0ff18b11ea7e5843ba0377719f7d65793c14", func := "respell/respelllaw13.TracePlaces", spec := "tracePlaces", unfollowed := true, recurses := true, named := ["respell/set.blocks"], apart := false, laid := [("respell/set.blocks", laid_respell_set_blocks)] }
def TracePlacesSaid : Prop := tracePlacesRow.holds Tryz.pinned (OpenSpec.ofChange tracePlacesSpec)

/-- ITS FALSE NEIGHBOUR: 'it returns false'. Refute it at one input. -/
def tracePlacesWrong : ChangeSpec := { name := "tracePlaces", fn := fun _ => fun
  | [d1, d2] => { results := [.lit (.bool false)], args := [d1, d2] }
  | _ => none }
def TracePlacesWrongFalsely : Prop := tracePlacesRow.holds Tryz.pinned (OpenSpec.ofChange tracePlacesWrong)

/-- 'respelllaw13.TraceThrough': WHATEVER THE INPUT: true; the input reads as it did. -/
def traceThroughSpec : ChangeSpec := { name := "traceThrough", fn := fun _ => fun
  | [d1, d2] => { results := [.lit (.bool true)], args := [d1, d2] }
  | _ => none }
def traceThroughRow : OpenClaim := { program := "ytibgnkpagfpinaagreatdoor", sum := "48201b44e49610e4fb6c1418212e0ff18b11ea7e5843ba0377719f7d65793c14", func := "respell/respelllaw13.TraceThrough", spec := "traceThrough", unfollowed := true, recurses := true, named := ["respell/set.blocks"], apart := false, laid := [("respell/set.blocks", laid_respell_set_blocks)] }
def TraceThroughSaid : Prop := traceThroughRow.holds Tryz.pinned (OpenSpec.ofChange traceThroughSpec)

/-- ITS FALSE NEIGHBOUR: 'it returns false'. Refute it at one input. -/
def traceThroughWrong : ChangeSpec := { name := "traceThrough", fn := fun _ => fun
  | [d1, d2] => { results := [.lit (.bool false)], args := [d1, d2] }
  | _ => none }
def TraceThroughWrongFalsely : Prop := traceThroughRow.holds Tryz.pinned (OpenSpec.ofChange traceThroughWrong)

/-- 'respelllaw13.TraceGaps': WHATEVER THE INPUT: true; the input reads as it did. -/
def traceGapsSpec : ChangeSpec := { name := "traceGaps", fn := fun _ => fun
  | [d1, d2] => { results := [.lit (.bool true)], args := [d1, d2] }
  | _ => none }
def traceGapsRow : OpenClaim := { program := "ytibgnkpagfpinaagreatdoor", sum := "48201b44e49610e4fb6c1418212e0ff18b11ea7e5843ba0377719f7d65793c14", func := "respell/respelllaw13.TraceGaps", spec := "traceGaps", inPlace := ["internal/abi.NoEscape"], unfollowed := true, recurses := true, named := ["respell/set.blocks"], apart := false, laid := [("respell/set.blocks", laid_respell_set_blocks)] }
def TraceGapsSaid : Prop := traceGapsRow.holds Tryz.pinned (OpenSpec.ofChange traceGapsSpec)

/-- ITS FALSE NEIGHBOUR: 'it returns false'. Refute it at one input. -/
def traceGapsWrong : ChangeSpec := { name := "traceGaps", fn := fun _ => fun
  | [d1, d2] => { results := [.lit (.bool false)], args := [d1, d2] }
  | _ => none }
def TraceGapsWrongFalsely : Prop := traceGapsRow.holds Tryz.pinned (OpenSpec.ofChange traceGapsWrong)

/- THE SECOND FORM. 'bulk': how many values and letters a reading holds, each counted each time it is reached (what is shared counts as often as it is met; a slice's spare places count too). A statement '..UptoSaid' is the law's where the arguments, and the package variables that the reading takes, are together of bulk at most 1048576: NARROWER than '..Said'. Prove '..Said' where nothing that the law and all that it calls make is longer than what came in: it says more and counts as full. Else prove '..UptoSaid'. A law counts once. -/
mutual
def uptoBulk {H : Type} : DataW H → Nat
  | .lit (.string bytes) => bytes.length + 1
  | .lit _ => 1
  | .nil => 1
  | .ptr d => uptoBulk d + 1
  | .slice elems spare => uptoBulkAll elems + uptoBulkAll spare + 1
  | .agg parts => uptoBulkAll parts + 1
  | .iface _ d => uptoBulk d + 1
  | .map entries => uptoBulkEntries entries + 1
  | .held _ => 1
def uptoBulkAll {H : Type} : List (DataW H) → Nat
  | [] => 0
  | d :: r => uptoBulk d + uptoBulkAll r
def uptoBulkEntries {H : Type} : List (Lit × DataW H) → Nat
  | [] => 0
  | x :: r => uptoBulkEntry x + uptoBulkEntries r
def uptoBulkEntry {H : Type} : Lit × DataW H → Nat
  | (.string bytes, d) => bytes.length + uptoBulk d + 1
  | (_, d) => uptoBulk d + 1
 end
def uptoSmall : (H : Type) → List (DataW H) → Bool := fun _ ds => decide (uptoBulkAll ds ≤ 1048576)
def OpenSpec.upto (s : _root_.Go.ChangeSpec) : _root_.Go.OpenSpec := { _root_.Go.OpenSpec.ofChange s with cond := some uptoSmall }

/-- 'respelllaw13.TraceBlocks', WHERE WHAT IT READS IS OF BULK AT MOST 1048576: true; the input reads as it did. -/
def traceBlocksUptoRow : OpenClaim := { program := "ytibgnkpagfpinaagreatdoor", sum := "48201b44e49610e4fb6c1418212e0ff18b11ea7e5843ba0377719f7d65793c14", func := "respell/respelllaw13.TraceBlocks", spec := "traceBlocks", unfollowed := true, recurses := true, named := ["respell/set.blocks"], apart := false, laid := [("respell/set.blocks", laid_respell_set_blocks)], narrowed := true }
def TraceBlocksUptoSaid : Prop := traceBlocksUptoRow.holds Tryz.pinned (OpenSpec.upto traceBlocksSpec)

/-- 'respelllaw13.TracePlaces', WHERE WHAT IT READS IS OF BULK AT MOST 1048576: true; the input reads as it did. -/
def tracePlacesUptoRow : OpenClaim := { program := "ytibgnkpagfpinaagreatdoor", sum := "48201b44e49610e4fb6c1418212e0ff18b11ea7e5843ba0377719f7d65793c14", func := "respell/respelllaw13.TracePlaces", spec := "tracePlaces", unfollowed := true, recurses := true, named := ["respell/set.blocks"], apart := false, laid := [("respell/set.blocks", laid_respell_set_blocks)], narrowed := true }
def TracePlacesUptoSaid : Prop := tracePlacesUptoRow.holds Tryz.pinned (OpenSpec.upto tracePlacesSpec)

/-- 'respelllaw13.TraceThrough', WHERE WHAT IT READS IS OF BULK AT MOST 1048576: true; the input reads as it did. -/
def traceThroughUptoRow : OpenClaim := { program := "ytibgnkpagfpinaagreatdoor", sum := "48201b44e49610e4fb6c1418212e0ff18b11ea7e5843ba0377719f7d65793c14", func := "respell/respelllaw13.TraceThrough", spec := "traceThrough", unfollowed := true, recurses := true, named := ["respell/set.blocks"], apart := false, laid := [("respell/set.blocks", laid_respell_set_blocks)], narrowed := true }
def TraceThroughUptoSaid : Prop := traceThroughUptoRow.holds Tryz.pinned (OpenSpec.upto traceThroughSpec)

/-- 'respelllaw13.TraceGaps', WHERE WHAT IT READS IS OF BULK AT MOST 1048576: true; the input reads as it did. -/
def traceGapsUptoRow : OpenClaim := { program := "ytibgnkpagfpinaagreatdoor", sum := "48201b44e49610e4fb6c1418212e0ff18b11ea7e5843ba0377719f7d65793c14", func := "respell/respelllaw13.TraceGaps", spec := "traceGaps", inPlace := ["internal/abi.NoEscape"], unfollowed := true, recurses := true, named := ["respell/set.blocks"], apart := false, laid := [("respell/set.blocks", laid_respell_set_blocks)], narrowed := true }
def TraceGapsUptoSaid : Prop := traceGapsUptoRow.holds Tryz.pinned (OpenSpec.upto traceGapsSpec)

end Rows
end Go.Proofs.YtibgnkpagfpinaaGreatDoor
