/-
  NARROWER THAN 'FOR EVERY INPUT', by the rows' own cells (each row's printed sentence says how): PassRuns: laid · PassSteps: laid · PassFits: laid · PassStill: laid.
  DERIVED. THE GIVEN ROWS OF THIS SEAT. 4 by the template 'for every input the law returns true; each argument reads behind the call as it read before'; 0 by the template 'total and deterministic' (their statements: YtaemgkemlifadaaGreatDoorTotals.lean).
  GIVEN WITH THE SEED: the statements are not yours to turn. If you find one false, say at which input.
  Laid BY PROGRAM, IN A SANDBOX (cutbox-rows.mjs): the forced cells as the released guide's own fill.sh prints them over the translation 09c6af9a6872fe2f… (all of the seat's roots in one cut). By AI agents, Wed Nov 11 2026. No macro, syntax, notation, axiom, sorry.
-/
import Derived.Test.YtaemgkemlifadaaGreatDoorChecked
import GoSem.Claim
import GoSem.ClaimJoined
import GoSem.ClaimMapViews
import Derived.JoinedTies
import Derived.KernelRfl
namespace Go.Proofs.YtaemgkemlifadaaGreatDoor
/- THE CELL 'sum', in the pinned program and in every row, IS THE sha256 OF THE DUMP (.gsa) THAT YtaemgkemlifadaaGreatDoorProg.lean LOADS. Nothing in Lean hashes anything: it is a label: what it is worth is what the hold of that sum in a sandbox is worth. -/
noncomputable def Tryz.pinned : Pinned := { name := "ytaemgkemlifadaagreatdoor", sum := "09c6af9a6872fe2fe87240a8423933053d3a42aa581e36eda9e36ac3b6ca177c", checked := Tryz.checked }
namespace Rows
def none {H : Type} : Left H := { results := [], args := [] }

/- WHAT THE LISTED PACKAGE-LEVEL VARIABLES READ AS WHEN THE CALL BEGINS. Each datum BY PROGRAM (the guide's laid-datum.mjs) off the statement by which the dump's own 'gosem.cut.vars' lays the variable. In a bare row this is a premise. The card (YtaemgkemlifadaaGreatDoorCards.lean) ties it to the program's text. -/
def laid_respell_set_blocks {H : Type} : DataW H := .agg [.agg [.lit (.int .i64 0), .lit (.int .i64 55295)], .agg [.lit (.int .i64 57344), .lit (.int .i64 1114111)], .agg [.lit (.int .i64 1114240), .lit (.int .i64 1114367)]]

/-- 'respelllaw10.PassRuns': WHATEVER THE INPUT: true; the input reads as it did. -/
def passRunsSpec : ChangeSpec := { name := "passRuns", fn := fun _ => fun
  | [d1, d2, d3] => { results := [.lit (.bool true)], args := [d1, d2, d3] }
  | _ => none }
def passRunsRow : OpenClaim := { program := "ytaemgkemlifadaagreatdoor", sum := "09c6af9a6872fe2fe87240a8423933053d3a42aa581e36eda9e36ac3b6ca177c", func := "respell/respelllaw10.PassRuns", spec := "passRuns", inPlace := ["internal/abi.NoEscape"], unfollowed := true, recurses := true, named := ["respell/set.blocks"], apart := false, laid := [("respell/set.blocks", laid_respell_set_blocks)] }
def PassRunsSaid : Prop := passRunsRow.holds Tryz.pinned (OpenSpec.ofChange passRunsSpec)

/-- ITS FALSE NEIGHBOUR: 'it returns false'. Refute it at one input. -/
def passRunsWrong : ChangeSpec := { name := "passRuns", fn := fun _ => fun
  | [d1, d2, d3] => { results := [.lit (.bool false)], args := [d1, d2, d3] }
  | _ => none }
def PassRunsWrongFalsely : Prop := passRunsRow.holds Tryz.pinned (OpenSpec.ofChange passRunsWrong)

/-- 'respelllaw10.PassSteps': WHATEVER THE INPUT: true; the input reads as it did. -/
def passStepsSpec : ChangeSpec := { name := "passSteps", fn := fun _ => fun
  | [d1, d2, d3] => { results := [.lit (.bool true)], args := [d1, d2, d3] }
  | _ => none }
def passStepsRow : OpenClaim := { program := "ytaemgkemlifadaagreatdoor", sum := "09c6af9a6872fe2fe87240a8423933053d3a42aa581e36eda9e36ac3b6ca177c", func := "respell/respelllaw10.PassSteps", spec := "passSteps", inPlace := ["internal/abi.NoEscape"], unfollowed := true, recurses := true, named := ["respell/set.blocks"], apart := false, laid := [("respell/set.blocks", laid_respell_set_blocks)] }
def PassStepsSaid : Prop := passStepsRow.holds Tryz.pinned (OpenSpec.ofChange passStepsSpec)

/-- ITS FALSE NEIGHBOUR: 'it returns false'. Refute it at one input. -/
def passStepsWrong : ChangeSpec := { name := "passSteps", fn := fun _ => fun
  | [d1, d2, d3] => { results := [.lit (.bool false)], args := [d1, d2, d3] }
  | _ => none }
def PassStepsWrongFalsely : Prop := passStepsRow.holds Tryz.pinned (OpenSpec.ofChange passStepsWrong)

/-- 'respelllaw10.PassFits': WHATEVER THE INPUT: true; the input reads as it did. -/
def passFitsSpec : ChangeSpec := { name := "passFits", fn := fun _ => fun
  | [d1, d2] => { results := [.lit (.bool true)], args := [d1, d2] }
  | _ => none }
def passFitsRow : OpenClaim := { program := "ytaemgkemlifadaagreatdoor", sum := "09c6af9a6872fe2fe87240a8423933053d3a42aa581e36eda9e36ac3b6ca177c", func := "respell/respelllaw10.PassFits", spec := "passFits", inPlace := ["internal/abi.NoEscape"], unfollowed := true, recurses := true, named := ["respell/set.blocks"], apart := false, laid := [("respell/set.blocks", laid_respell_set_blocks)] }
def PassFitsSaid : Prop := passFitsRow.holds Tryz.pinned (OpenSpec.ofChange passFitsSpec)

/-- ITS FALSE NEIGHBOUR: 'it returns false'. Refute it at one input. -/
def passFitsWrong : ChangeSpec := { name := "passFits", fn := fun _ => fun
  | [d1, d2] => { results := [.lit (.bool false)], args := [d1, d2] }
  | _ => none }
def PassFitsWrongFalsely : Prop := passFitsRow.holds Tryz.pinned (OpenSpec.ofChange passFitsWrong)

/-- 'respelllaw10.PassStill': WHATEVER THE INPUT: true; the input reads as it did. -/
def passStillSpec : ChangeSpec := { name := "passStill", fn := fun _ => fun
  | [d1, d2] => { results := [.lit (.bool true)], args := [d1, d2] }
  | _ => none }
def passStillRow : OpenClaim := { program := "ytaemgkemlifadaagreatdoor", sum := "09c6af9a6872fe2fe87240a8423933053d3a42aa581e36eda9e36ac3b6ca177c", func := "respell/respelllaw10.PassStill", spec := "passStill", inPlace := ["internal/abi.NoEscape"], unfollowed := true, recurses := true, named := ["respell/set.blocks"], apart := false, laid := [("respell/set.blocks", laid_respell_set_blocks)] }
def PassStillSaid : Prop := passStillRow.holds Tryz.pinned (OpenSpec.ofChange passStillSpec)

/-- ITS FALSE NEIGHBOUR: 'it returns false'. Refute it at one input. -/
def passStillWrong : ChangeSpec := { name := "passStill", fn := fun _ => fun
  | [d1, d2] => { results := [.lit (.bool false)], args := [d1, d2] }
  | _ => none }
def PassStillWrongFalsely : Prop := passStillRow.holds Tryz.pinned (OpenSpec.ofChange passStillWrong)

/- THE SECOND FORM. 'bulk': how many values and letters a reading holds, each counted each time it is reached (what is shared counts as often as it is met; a slice's spare places count too). A statement '..UptoSaid' is the law's where the arguments, and the package variables that the reading takes, are together of bulk at most 1048576: NARROWER than '..Said'. Prove '..Said' where nothing that the law and all that it calls make is longer than what came in: it says more and counts as full. Else prove '..UptoSaid'. A law counts once. -/
mutual
def uptoBulk {H : Type} : DataW H → Nat
  | .lit (.string bytes) => bytes.length + 1
  | .lit _ => 1
  | .nil => 1
  | .ptr d => uptoBulk d + 1
  | .slice elems spare => uptoBulkAll elems + uptoBulkAll spare + 1
  | .agg parts => uptoBulkAll parts + 1
  | .iface _ d => uptoBulk d + 1
  | .map entries => uptoBulkEntries entries + 1
  | .held _ => 1
def uptoBulkAll {H : Type} : List (DataW H) → Nat
  | [] => 0
  | d :: r => uptoBulk d + uptoBulkAll r
def uptoBulkEntries {H : Type} : List (Lit × DataW H) → Nat
  | [] => 0
  | x :: r => uptoBulkEntry x + uptoBulkEntries r
def uptoBulkEntry {H : Type} : Lit × DataW H → Nat
  | (.string bytes, d) => bytes.length + uptoBulk d + 1
  | (_, d) => uptoBulk d + 1
 end
def uptoSmall : (H : Type) → List (DataW H) → Bool := fun _ ds => decide (uptoBulkAll ds ≤ 1048576)
def OpenSpec.upto (s : _root_.Go.ChangeSpec) : _root_.Go.OpenSpec := { _root_.Go.OpenSpec.ofChange s with cond := some uptoSmall }

/-- 'respelllaw10.PassRuns', WHERE WHAT IT READS IS OF BULK AT MOST 1048576: true; the input reads as it did. -/
def passRunsUptoRow : OpenClaim := { program := "ytaemgkemlifadaagreatdoor", sum := "09c6af9a6872fe2fe87240a8423933053d3a42aa581e36eda9e36ac3b6ca177c", func := "respell/respelllaw10.PassRuns", spec := "passRuns", inPlace := ["internal/abi.NoEscape"], unfollowed := true, recurses := true, named := ["respell/set.blocks"], apart := false, laid := [("respell/set.blocks", laid_respell_set_blocks)], narrowed := true }
def PassRunsUptoSaid : Prop := passRunsUptoRow.holds Tryz.pinned (OpenSpec.upto passRunsSpec)

/-- 'respelllaw10.PassSteps', WHERE WHAT IT READS IS OF BULK AT MOST 1048576: true; the input reads as it did. -/
def passStepsUptoRow : OpenClaim := { program := "ytaemgkemlifadaagreatdoor", sum := "09c6af9a6872fe2fe87240a8423933053d3a42aa581e36eda9e36ac3b6ca177c", func := "respell/respelllaw10.PassSteps", spec := "passSteps", inPlace := ["internal/abi.NoEscape"], unfollowed := true, recurses := true, named := ["respell/set.blocks"], apart := false, laid := [("respell/set.blocks", laid_respell_set_blocks)], narrowed := true }
def PassStepsUptoSaid : Prop := passStepsUptoRow.holds Tryz.pinned (OpenSpec.upto passStepsSpec)

/-- 'respelllaw10.PassFits', WHERE WHAT IT READS IS OF BULK AT MOST 1048576: true; the input reads as it did. -/
def passFitsUptoRow : OpenClaim := { program := "ytaemgkemlifadaagreatdoor", sum := "09c6af9a6872fe2fe87240a8423933053d3a42aa581e36eda9e36ac3b6ca177c", func := "respell/respelllaw10.PassFits", spec := "passFits", inPlace := ["internal/abi.NoEscape"], unfollowed := true, recurses := true, named := ["respell/set.blocks"], apart := false, laid := [("respell/set.blocks", laid_respell_set_blocks)], narrowed := true }
def PassFitsUptoSaid : Prop := passFitsUptoRow.holds Tryz.pinned (OpenSpec.upto passFitsSpec)

/-- 'respelllaw10.PassStill', WHERE WHAT IT READS IS OF BULK AT MOST 1048576: true; the input reads as it did. -/
def passStillUptoRow : OpenClaim := { program := "ytaemgkemlifadaagreatdoor", sum := "09c6af9a6872fe2fe87240a8423933053d3a42aa581e36eda9e36ac3b6ca177c", func := "respell/respelllaw10.PassStill", spec := "passStill", inPlace := ["internal/abi.NoEscape"], unfollowed := true, recurses := true, named := ["respell/set.blocks"], apart := false, laid := [("respell/set.blocks", laid_respell_set_blocks)], narrowed := true }
def PassStillUptoSaid : Prop := passStillUptoRow.holds Tryz.pinned (OpenSpec.upto passStillSpec)

end Rows
end Go.Proofs.YtaemgkemlifadaaGreatDoor
