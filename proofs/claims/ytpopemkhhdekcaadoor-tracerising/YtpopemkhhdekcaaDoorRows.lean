/-
  NARROWER THAN 'FOR EVERY INPUT', by the rows' own cells (each row's printed sentence says how): PassSees: laid · TraceRising: laid · TraceThree: laid.
  DERIVED. THE GIVEN ROWS OF THIS SEAT. 3 by the template 'for every input the law returns true; each argument reads behind the call as it read before'; 0 by the template 'total and deterministic' (their statements: YtpopemkhhdekcaaDoorTotals.lean).
  GIVEN WITH THE SEED: the statements are not yours to turn. If you find one false, say at which input.
  Laid BY PROGRAM, IN A SANDBOX (cutbox-rows.mjs): the forced cells as the released guide's own fill.sh prints them over the translation 329f824f5f523ef6… (all of the seat's roots in one cut). By AI agents, Wed Nov 11 2026. No macro, syntax, notation, axiom, sorry.
-/
import Derived.Test.YtpopemkhhdekcaaDoorChecked
import GoSem.Claim
import GoSem.ClaimJoined
import GoSem.ClaimMapViews
import Derived.JoinedTies
import Derived.KernelRfl
namespace Go.Proofs.YtpopemkhhdekcaaDoor
/- THE CELL 'sum', in the pinned program and in every row, IS THE sha256 OF THE DUMP (.gsa) THAT YtpopemkhhdekcaaDoorProg.lean LOADS. Nothing in Lean hashes anything: it is a label: what it is worth is what the hold of that sum in a sandbox is worth. -/
noncomputable def Tryd.pinned : Pinned := { name := "ytpopemkhhdekcaadoor", sum := "329f824f5f523ef6e05a024e7d12aa06e0f299b9a006a41c8eb22c26bf9baa8c", checked := Tryd.checked }
namespace Rows
def none {H : Type} : Left H := { results := [], args := [] }

/- WHAT THE LISTED PACKAGE-LEVEL VARIABLES READ AS WHEN THE CALL BEGINS. Each datum BY PROGRAM (the guide's laid-datum.mjs) off the statement by which the dump's own 'gosem.cut.vars' lays the variable. In a bare row this is a premise. The card (YtpopemkhhdekcaaDoorCards.lean) ties it to the program's text. -/
def laid_respell_set_blocks {H : Type} : DataW H := .agg [.agg [.lit (.int .i64 0), .lit (.int .i64 55295)], .agg [.lit (.int .i64 57344), .lit (.int .i64 1114111)], .agg [.lit (.int .i64 1114240), .lit (.int .i64 1114367)]]

/-- 'respelllaw10.PassSees': WHATEVER THE INPUT: true; the input reads as it did. -/
def passSeesSpec : ChangeSpec := { name := "passSees", fn := fun _ => fun
  | [d1, d2, d3] => { results := [.lit (.bool true)], args := [d1, d2, d3] }
  | _ => none }
def passSeesRow : OpenClaim := { program := "ytpopemkhhdekcaadoor", sum := "329f824f5f523ef6e05a024e7d12aa06e0f299b9a006a41c8eb22c26bf9baa8c", func := "respell/respelllaw10.PassSees", spec := "passSees", inPlace := ["internal/abi.NoEscape"], unfollowed := true, recurses := true, named := ["respell/set.blocks"], apart := false, laid := [("respell/set.blocks", laid_respell_set_blocks)] }
def PassSeesSaid : Prop := passSeesRow.holds Tryd.pinned (OpenSpec.ofChange passSeesSpec)

/-- ITS FALSE NEIGHBOUR: 'it returns false'. Refute it at one input. -/
def passSeesWrong : ChangeSpec := { name := "passSees", fn := fun _ => fun
  | [d1, d2, d3] => { results := [.lit (.bool false)], args := [d1, d2, d3] }
  | _ => none }
def PassSeesWrongFalsely : Prop := passSeesRow.holds Tryd.pinned (OpenSpec.ofChange passSeesWrong)

/-- 'respelllaw13.TraceRising': WHATEVER THE INPUT: true; the input reads as it did. -/
def traceRisingSpec : ChangeSpec := { name := "traceRising", fn := fun _ => fun
  | [d] => { results := [.lit (.bool true)], args := [d] }
  | _ => none }
def traceRisingRow : OpenClaim := { program := "ytpopemkhhdekcaadoor", sum := "329f824f5f523ef6e05a024e7d12aa06e0f299b9a006a41c8eb22c26bf9baa8c", func := "respell/respelllaw13.TraceRising", spec := "traceRising", unfollowed := true, recurses := true, named := ["respell/set.blocks"], apart := false, laid := [("respell/set.blocks", laid_respell_set_blocks)] }
def TraceRisingSaid : Prop := traceRisingRow.holds Tryd.pinned (OpenSpec.ofChange traceRisingSpec)

/-- ITS FALSE NEIGHBOUR: 'it returns false'. Refute it at one input. -/
def traceRisingWrong : ChangeSpec := { name := "traceRising", fn := fun _ => fun
  | [d] => { results := [.lit (.bool false)], args := [d] }
  | _ => none }
def TraceRisingWrongFalsely : Prop := traceRisingRow.holds Tryd.pinned (OpenSpec.ofChange traceRisingWrong)

/-- 'respelllaw13.TraceThree': WHATEVER THE INPUT: true; the input reads as it did. -/
def traceThreeSpec : ChangeSpec := { name := "traceThree", fn := fun _ => fun
  | [d1, d2, d3] => { results := [.lit (.bool true)], args := [d1, d2, d3] }
  | _ => none }
def traceThreeRow : OpenClaim := { program := "ytpopemkhhdekcaadoor", sum := "329f824f5f523ef6e05a024e7d12aa06e0f299b9a006a41c8eb22c26bf9baa8c", func := "respell/respelllaw13.TraceThree", spec := "traceThree", unfollowed := true, recurses := true, named := ["respell/set.blocks"], apart := false, laid := [("respell/set.blocks", laid_respell_set_blocks)] }
def TraceThreeSaid : Prop := traceThreeRow.holds Tryd.pinned (OpenSpec.ofChange traceThreeSpec)

/-- ITS FALSE NEIGHBOUR: 'it returns false'. Refute it at one input. -/
def traceThreeWrong : ChangeSpec := { name := "traceThree", fn := fun _ => fun
  | [d1, d2, d3] => { results := [.lit (.bool false)], args := [d1, d2, d3] }
  | _ => none }
def TraceThreeWrongFalsely : Prop := traceThreeRow.holds Tryd.pinned (OpenSpec.ofChange traceThreeWrong)

/- THE SECOND FORM. 'bulk': how many values and letters a reading holds, each counted each time it is reached (what is shared counts as often as it is met; a slice's spare places count too). A statement '..UptoSaid' is the law's where the arguments, and the package variables that the reading takes, are together of bulk at most 1048576: NARROWER than '..Said'. Prove '..Said' where nothing that the law and all that it calls make is longer than what came in: it says more and counts as full. Else prove '..UptoSaid'. A law counts once. -/
mutual
def uptoBulk {H : Type} : DataW H → Nat
  | .lit (.string bytes) => bytes.length + 1
  | .lit _ => 1
  | .nil => 1
  | .ptr d => uptoBulk d + 1
  | .slice elems spare => uptoBulkAll elems + uptoBulkAll spare + 1
  | .agg parts => uptoBulkAll parts + 1
  | .iface _ d => uptoBulk d + 1
  | .map entries => uptoBulkEntries entries + 1
  | .held _ => 1
def uptoBulkAll {H : Type} : List (DataW H) → Nat
  | [] => 0
  | d :: r => uptoBulk d + uptoBulkAll r
def uptoBulkEntries {H : Type} : List (Lit × DataW H) → Nat
  | [] => 0
  | x :: r => uptoBulkEntry x + uptoBulkEntries r
def uptoBulkEntry {H : Type} : Lit × DataW H → Nat
  | (.string bytes, d) => bytes.length + uptoBulk d + 1
  | (_, d) => uptoBulk d + 1
 end
def uptoSmall : (H : Type) → List (DataW H) → Bool := fun _ ds => decide (uptoBulkAll ds ≤ 1048576)
def OpenSpec.upto (s : _root_.Go.ChangeSpec) : _root_.Go.OpenSpec := { _root_.Go.OpenSpec.ofChange s with cond := some uptoSmall }

/-- 'respelllaw10.PassSees', WHERE WHAT IT READS IS OF BULK AT MOST 1048576: true; the input reads as it did. -/
def passSeesUptoRow : OpenClaim := { program := "ytpopemkhhdekcaadoor", sum := "329f824f5f523ef6e05a024e7d12aa06e0f299b9a006a41c8eb22c26bf9baa8c", func := "respell/respelllaw10.PassSees", spec := "passSees", inPlace := ["internal/abi.NoEscape"], unfollowed := true, recurses := true, named := ["respell/set.blocks"], apart := false, laid := [("respell/set.blocks", laid_respell_set_blocks)], narrowed := true }
def PassSeesUptoSaid : Prop := passSeesUptoRow.holds Tryd.pinned (OpenSpec.upto passSeesSpec)

/-- 'respelllaw13.TraceRising', WHERE WHAT IT READS IS OF BULK AT MOST 1048576: true; the input reads as it did. -/
def traceRisingUptoRow : OpenClaim := { program := "ytpopemkhhdekcaadoor", sum := "329f824f5f523ef6e05a024e7d12aa06e0f299b9a006a41c8eb22c26bf9baa8c", func := "respell/respelllaw13.TraceRising", spec := "traceRising", unfollowed := true, recurses := true, named := ["respell/set.blocks"], apart := false, laid := [("respell/set.blocks", laid_respell_set_blocks)], narrowed := true }
def TraceRisingUptoSaid : Prop := traceRisingUptoRow.holds Tryd.pinned (OpenSpec.upto traceRisingSpec)

/-- 'respelllaw13.TraceThree', WHERE WHAT IT READS IS OF BULK AT MOST 1048576: true; the input reads as it did. -/
def traceThreeUptoRow : OpenClaim := { program := "ytpopemkhhdekcaadoor", sum := "329f824f5f523ef6e05a024e7d12aa06e0f299b9a006a41c8eb22c26bf9baa8c", func := "respell/respelllaw13.TraceThree", spec := "traceThree", unfollowed := true, recurses := true, named := ["respell/set.blocks"], apart := false, laid := [("respell/set.blocks", laid_respell_set_blocks)], narrowed := true }
def TraceThreeUptoSaid : Prop := traceThreeUptoRow.holds Tryd.pinned (OpenSpec.upto traceThreeSpec)

end Rows
end Go.Proofs.YtpopemkhhdekcaaDoor
