/-
  NARROWER THAN 'FOR EVERY INPUT', by the rows' own cells (each row's printed sentence says how): NamesSet: loops, laid · NamesShort: laid · NamesNumbers: laid.
  DERIVED. THE GIVEN ROWS OF THIS SEAT. 3 by the template 'for every input the law returns true; each argument reads behind the call as it read before'; 0 by the template 'total and deterministic' (their statements: YtbacejefgpaabaaDoorTotals.lean).
  GIVEN WITH THE SEED: the statements are not yours to turn. If you find one false, say at which input.
  Laid BY PROGRAM, IN A SANDBOX (cutbox-rows.mjs): the forced cells as the released guide's own fill.sh prints them over the translation 725682b0153eaa21… (all of the seat's roots in one cut). By AI agents, Wed Nov 11 2026. No macro, syntax, notation, axiom, sorry.
-/
import Derived.Test.YtbacejefgpaabaaDoorChecked
import GoSem.Claim
import GoSem.ClaimJoined
import GoSem.ClaimMapViews
import Derived.JoinedTies
import Derived.KernelRfl
namespace Go.Proofs.YtbacejefgpaabaaDoor
/- THE CELL 'sum', in the pinned program and in every row, IS THE sha256 OF THE DUMP (.gsa) THAT YtbacejefgpaabaaDoorProg.lean LOADS. Nothing in Lean hashes anything: it is a label: what it is worth is what the hold of that sum in a sandbox is worth. -/
noncomputable def Tryd.pinned : Pinned := { name := "ytbacejefgpaabaadoor", sum := "725682b0153eaa21a5cea8f1c15d5e9bd44bd1f4873e24e3add1143db63219a7", checked := Tryd.checked }
namespace Rows
def none {H : Type} : Left H := { results := [], args := [] }

/- WHAT THE LISTED PACKAGE-LEVEL VARIABLES READ AS WHEN THE CALL BEGINS. Each datum BY PROGRAM (the guide's laid-datum.mjs) off the statement by which the dump's own 'gosem.cut.vars' lays the variable. In a bare row this is a premise. The card (YtbacejefgpaabaaDoorCards.lean) ties it to the program's text. -/
def laid_respell_set_blocks {H : Type} : DataW H := .agg [.agg [.lit (.int .i64 0), .lit (.int .i64 55295)], .agg [.lit (.int .i64 57344), .lit (.int .i64 1114111)], .agg [.lit (.int .i64 1114240), .lit (.int .i64 1114367)]]

/-- 'respelllaw06.NamesSet': WHATEVER THE INPUT: true; the input reads as it did. -/
def namesSetSpec : ChangeSpec := { name := "namesSet", fn := fun _ => fun
  | [d1, d2, d3] => { results := [.lit (.bool true)], args := [d1, d2, d3] }
  | _ => none }
def namesSetRow : OpenClaim := { program := "ytbacejefgpaabaadoor", sum := "725682b0153eaa21a5cea8f1c15d5e9bd44bd1f4873e24e3add1143db63219a7", func := "respell/respelllaw06.NamesSet", spec := "namesSet", unfollowed := true, recurses := true, named := ["respell/set.blocks"], loops := true, apart := false, laid := [("respell/set.blocks", laid_respell_set_blocks)] }
def NamesSetSaid : Prop := namesSetRow.holds Tryd.pinned (OpenSpec.ofChange namesSetSpec)

/-- ITS FALSE NEIGHBOUR: 'it returns false'. Refute it at one input. -/
def namesSetWrong : ChangeSpec := { name := "namesSet", fn := fun _ => fun
  | [d1, d2, d3] => { results := [.lit (.bool false)], args := [d1, d2, d3] }
  | _ => none }
def NamesSetWrongFalsely : Prop := namesSetRow.holds Tryd.pinned (OpenSpec.ofChange namesSetWrong)

/-- 'respelllaw06.NamesShort': WHATEVER THE INPUT: true; the input reads as it did. -/
def namesShortSpec : ChangeSpec := { name := "namesShort", fn := fun _ => fun
  | [d1, d2, d3, d4] => { results := [.lit (.bool true)], args := [d1, d2, d3, d4] }
  | _ => none }
def namesShortRow : OpenClaim := { program := "ytbacejefgpaabaadoor", sum := "725682b0153eaa21a5cea8f1c15d5e9bd44bd1f4873e24e3add1143db63219a7", func := "respell/respelllaw06.NamesShort", spec := "namesShort", unfollowed := true, recurses := true, named := ["respell/set.blocks"], apart := false, laid := [("respell/set.blocks", laid_respell_set_blocks)] }
def NamesShortSaid : Prop := namesShortRow.holds Tryd.pinned (OpenSpec.ofChange namesShortSpec)

/-- ITS FALSE NEIGHBOUR: 'it returns false'. Refute it at one input. -/
def namesShortWrong : ChangeSpec := { name := "namesShort", fn := fun _ => fun
  | [d1, d2, d3, d4] => { results := [.lit (.bool false)], args := [d1, d2, d3, d4] }
  | _ => none }
def NamesShortWrongFalsely : Prop := namesShortRow.holds Tryd.pinned (OpenSpec.ofChange namesShortWrong)

/-- 'respelllaw06.NamesNumbers': WHATEVER THE INPUT: true; the input reads as it did. -/
def namesNumbersSpec : ChangeSpec := { name := "namesNumbers", fn := fun _ => fun
  | [] => { results := [.lit (.bool true)], args := [] }
  | _ => none }
def namesNumbersRow : OpenClaim := { program := "ytbacejefgpaabaadoor", sum := "725682b0153eaa21a5cea8f1c15d5e9bd44bd1f4873e24e3add1143db63219a7", func := "respell/respelllaw06.NamesNumbers", spec := "namesNumbers", unfollowed := true, recurses := true, named := ["respell/set.blocks"], apart := false, laid := [("respell/set.blocks", laid_respell_set_blocks)] }
def NamesNumbersSaid : Prop := namesNumbersRow.holds Tryd.pinned (OpenSpec.ofChange namesNumbersSpec)

/-- ITS FALSE NEIGHBOUR: 'it returns false'. Refute it at one input. -/
def namesNumbersWrong : ChangeSpec := { name := "namesNumbers", fn := fun _ => fun
  | [] => { results := [.lit (.bool false)], args := [] }
  | _ => none }
def NamesNumbersWrongFalsely : Prop := namesNumbersRow.holds Tryd.pinned (OpenSpec.ofChange namesNumbersWrong)

/- THE SECOND FORM. 'bulk': how many values and letters a reading holds, each counted each time it is reached (what is shared counts as often as it is met; a slice's spare places count too). A statement '..UptoSaid' is the law's where the arguments, and the package variables that the reading takes, are together of bulk at most 1048576: NARROWER than '..Said'. Prove '..Said' where nothing that the law and all that it calls make is longer than what came in: it says more and counts as full. Else prove '..UptoSaid'. A law counts once. -/
mutual
def uptoBulk {H : Type} : DataW H → Nat
  | .lit (.string bytes) => bytes.length + 1
  | .lit _ => 1
  | .nil => 1
  | .ptr d => uptoBulk d + 1
  | .slice elems spare => uptoBulkAll elems + uptoBulkAll spare + 1
  | .agg parts => uptoBulkAll parts + 1
  | .iface _ d => uptoBulk d + 1
  | .map entries => uptoBulkEntries entries + 1
  | .held _ => 1
def uptoBulkAll {H : Type} : List (DataW H) → Nat
  | [] => 0
  | d :: r => uptoBulk d + uptoBulkAll r
def uptoBulkEntries {H : Type} : List (Lit × DataW H) → Nat
  | [] => 0
  | x :: r => uptoBulkEntry x + uptoBulkEntries r
def uptoBulkEntry {H : Type} : Lit × DataW H → Nat
  | (.string bytes, d) => bytes.length + uptoBulk d + 1
  | (_, d) => uptoBulk d + 1
 end
def uptoSmall : (H : Type) → List (DataW H) → Bool := fun _ ds => decide (uptoBulkAll ds ≤ 1048576)
def OpenSpec.upto (s : _root_.Go.ChangeSpec) : _root_.Go.OpenSpec := { _root_.Go.OpenSpec.ofChange s with cond := some uptoSmall }

/-- 'respelllaw06.NamesSet', WHERE WHAT IT READS IS OF BULK AT MOST 1048576: true; the input reads as it did. -/
def namesSetUptoRow : OpenClaim := { program := "ytbacejefgpaabaadoor", sum := "725682b0153eaa21a5cea8f1c15d5e9bd44bd1f4873e24e3add1143db63219a7", func := "respell/respelllaw06.NamesSet", spec := "namesSet", unfollowed := true, recurses := true, named := ["respell/set.blocks"], loops := true, apart := false, laid := [("respell/set.blocks", laid_respell_set_blocks)], narrowed := true }
def NamesSetUptoSaid : Prop := namesSetUptoRow.holds Tryd.pinned (OpenSpec.upto namesSetSpec)

/-- 'respelllaw06.NamesShort', WHERE WHAT IT READS IS OF BULK AT MOST 1048576: true; the input reads as it did. -/
def namesShortUptoRow : OpenClaim := { program := "ytbacejefgpaabaadoor", sum := "725682b0153eaa21a5cea8f1c15d5e9bd44bd1f4873e24e3add1143db63219a7", func := "respell/respelllaw06.NamesShort", spec := "namesShort", unfollowed := true, recurses := true, named := ["respell/set.blocks"], apart := false, laid := [("respell/set.blocks", laid_respell_set_blocks)], narrowed := true }
def NamesShortUptoSaid : Prop := namesShortUptoRow.holds Tryd.pinned (OpenSpec.upto namesShortSpec)

/-- 'respelllaw06.NamesNumbers', WHERE WHAT IT READS IS OF BULK AT MOST 1048576: true; the input reads as it did. -/
def namesNumbersUptoRow : OpenClaim := { program := "ytbacejefgpaabaadoor", sum := "725682b0153eaa21a5cea8f1c15d5e9bd44bd1f4873e24e3add1143db63219a7", func := "respell/respelllaw06.NamesNumbers", spec := "namesNumbers", unfollowed := true, recurses := true, named := ["respell/set.blocks"], apart := false, laid := [("respell/set.blocks", laid_respell_set_blocks)], narrowed := true }
def NamesNumbersUptoSaid : Prop := namesNumbersUptoRow.holds Tryd.pinned (OpenSpec.upto namesNumbersSpec)

end Rows
end Go.Proofs.YtbacejefgpaabaaDoor
