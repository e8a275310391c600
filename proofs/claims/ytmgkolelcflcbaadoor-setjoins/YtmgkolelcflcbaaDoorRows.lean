/-
  NARROWER THAN 'FOR EVERY INPUT', by the rows' own cells (each row's printed sentence says how): SetOf: laid · SetAsks: laid · SetJoins: laid · SetLaws: laid · SetNumbers: laid.
  DERIVED. THE GIVEN ROWS OF THIS SEAT. 5 by the template 'for every input the law returns true; each argument reads behind the call as it read before'; 0 by the template 'total and deterministic' (their statements: YtmgkolelcflcbaaDoorTotals.lean).
  GIVEN WITH THE SEED: the statements are not yours to turn. If you find one false, say at which input.
  Laid BY PROGRAM, IN A SANDBOX (cutbox-rows.mjs): the forced cells as the released guide's own fill.sh prints them over the translation 8ed1259d1b5db4c9… (all of the seat's roots in one cut). By AI agents, Wed Nov 11 2026. No macro, syntax, notation, axiom, sorry.
-/
import Derived.Test.YtmgkolelcflcbaaDoorChecked
import GoSem.Claim
import GoSem.ClaimJoined
import GoSem.ClaimMapViews
import Derived.JoinedTies
import Derived.KernelRfl
namespace Go.Proofs.YtmgkolelcflcbaaDoor
/- THE CELL 'sum', in the pinned program and in every row, IS THE sha256 OF THE DUMP (.gsa) THAT YtmgkolelcflcbaaDoorProg.lean LOADS. Nothing in Lean hashes anything: it is a label: what it is worth is what the hold of that sum in a sandbox is worth. -/
noncomputable def Tryd.pinned : Pinned := { name := "ytmgkolelcflcbaadoor", sum := "8ed1259d1b5db4c9803693fdc2febc455069aa0cfaebd2c44fcf2924ade66de6", checked := Tryd.checked }
namespace Rows
def none {H : Type} : Left H := { results := [], args := [] }

/- WHAT THE LISTED PACKAGE-LEVEL VARIABLES READ AS WHEN THE CALL BEGINS. Each datum BY PROGRAM (the guide's laid-datum.mjs) off the statement by which the dump's own 'gosem.cut.vars' lays the variable. In a bare row this is a premise. The card (YtmgkolelcflcbaaDoorCards.lean) ties it to the program's text. -/
def laid_respell_set_blocks {H : Type} : DataW H := .agg [.agg [.lit (.int .i64 0), .lit (.int .i64 55295)], .agg [.lit (.int .i64 57344), .lit (.int .i64 1114111)], .agg [.lit (.int .i64 1114240), .lit (.int .i64 1114367)]]

/-- 'respelllaw02.SetOf': WHATEVER THE INPUT: true; the input reads as it did. -/
def setOfSpec : ChangeSpec := { name := "setOf", fn := fun _ => fun
  | [d1, d2] => { results := [.lit (.bool true)], args := [d1, d2] }
  | _ => none }
def setOfRow : OpenClaim := { program := "ytmgkolelcflcbaadoor", sum := "8ed1259d1b5db4c9803693fdc2febc455069aa0cfaebd2c44fcf2924ade66de6", func := "respell/respelllaw02.SetOf", spec := "setOf", unfollowed := true, recurses := true, named := ["respell/set.blocks"], apart := false, laid := [("respell/set.blocks", laid_respell_set_blocks)] }
def SetOfSaid : Prop := setOfRow.holds Tryd.pinned (OpenSpec.ofChange setOfSpec)

/-- ITS FALSE NEIGHBOUR: 'it returns false'. Refute it at one input. -/
def setOfWrong : ChangeSpec := { name := "setOf", fn := fun _ => fun
  | [d1, d2] => { results := [.lit (.bool false)], args := [d1, d2] }
  | _ => none }
def SetOfWrongFalsely : Prop := setOfRow.holds Tryd.pinned (OpenSpec.ofChange setOfWrong)

/-- 'respelllaw02.SetAsks': WHATEVER THE INPUT: true; the input reads as it did. -/
def setAsksSpec : ChangeSpec := { name := "setAsks", fn := fun _ => fun
  | [d1, d2, d3] => { results := [.lit (.bool true)], args := [d1, d2, d3] }
  | _ => none }
def setAsksRow : OpenClaim := { program := "ytmgkolelcflcbaadoor", sum := "8ed1259d1b5db4c9803693fdc2febc455069aa0cfaebd2c44fcf2924ade66de6", func := "respell/respelllaw02.SetAsks", spec := "setAsks", unfollowed := true, recurses := true, named := ["respell/set.blocks"], apart := false, laid := [("respell/set.blocks", laid_respell_set_blocks)] }
def SetAsksSaid : Prop := setAsksRow.holds Tryd.pinned (OpenSpec.ofChange setAsksSpec)

/-- ITS FALSE NEIGHBOUR: 'it returns false'. Refute it at one input. -/
def setAsksWrong : ChangeSpec := { name := "setAsks", fn := fun _ => fun
  | [d1, d2, d3] => { results := [.lit (.bool false)], args := [d1, d2, d3] }
  | _ => none }
def SetAsksWrongFalsely : Prop := setAsksRow.holds Tryd.pinned (OpenSpec.ofChange setAsksWrong)

/-- 'respelllaw02.SetJoins': WHATEVER THE INPUT: true; the input reads as it did. -/
def setJoinsSpec : ChangeSpec := { name := "setJoins", fn := fun _ => fun
  | [d1, d2] => { results := [.lit (.bool true)], args := [d1, d2] }
  | _ => none }
def setJoinsRow : OpenClaim := { program := "ytmgkolelcflcbaadoor", sum := "8ed1259d1b5db4c9803693fdc2febc455069aa0cfaebd2c44fcf2924ade66de6", func := "respell/respelllaw02.SetJoins", spec := "setJoins", unfollowed := true, recurses := true, named := ["respell/set.blocks"], apart := false, laid := [("respell/set.blocks", laid_respell_set_blocks)] }
def SetJoinsSaid : Prop := setJoinsRow.holds Tryd.pinned (OpenSpec.ofChange setJoinsSpec)

/-- ITS FALSE NEIGHBOUR: 'it returns false'. Refute it at one input. -/
def setJoinsWrong : ChangeSpec := { name := "setJoins", fn := fun _ => fun
  | [d1, d2] => { results := [.lit (.bool false)], args := [d1, d2] }
  | _ => none }
def SetJoinsWrongFalsely : Prop := setJoinsRow.holds Tryd.pinned (OpenSpec.ofChange setJoinsWrong)

/-- 'respelllaw02.SetLaws': WHATEVER THE INPUT: true; the input reads as it did. -/
def setLawsSpec : ChangeSpec := { name := "setLaws", fn := fun _ => fun
  | [d1, d2, d3] => { results := [.lit (.bool true)], args := [d1, d2, d3] }
  | _ => none }
def setLawsRow : OpenClaim := { program := "ytmgkolelcflcbaadoor", sum := "8ed1259d1b5db4c9803693fdc2febc455069aa0cfaebd2c44fcf2924ade66de6", func := "respell/respelllaw02.SetLaws", spec := "setLaws", unfollowed := true, recurses := true, named := ["respell/set.blocks"], apart := false, laid := [("respell/set.blocks", laid_respell_set_blocks)] }
def SetLawsSaid : Prop := setLawsRow.holds Tryd.pinned (OpenSpec.ofChange setLawsSpec)

/-- ITS FALSE NEIGHBOUR: 'it returns false'. Refute it at one input. -/
def setLawsWrong : ChangeSpec := { name := "setLaws", fn := fun _ => fun
  | [d1, d2, d3] => { results := [.lit (.bool false)], args := [d1, d2, d3] }
  | _ => none }
def SetLawsWrongFalsely : Prop := setLawsRow.holds Tryd.pinned (OpenSpec.ofChange setLawsWrong)

/-- 'respelllaw02.SetNumbers': WHATEVER THE INPUT: true; the input reads as it did. -/
def setNumbersSpec : ChangeSpec := { name := "setNumbers", fn := fun _ => fun
  | [] => { results := [.lit (.bool true)], args := [] }
  | _ => none }
def setNumbersRow : OpenClaim := { program := "ytmgkolelcflcbaadoor", sum := "8ed1259d1b5db4c9803693fdc2febc455069aa0cfaebd2c44fcf2924ade66de6", func := "respell/respelllaw02.SetNumbers", spec := "setNumbers", unfollowed := true, recurses := true, named := ["respell/set.blocks"], apart := false, laid := [("respell/set.blocks", laid_respell_set_blocks)] }
def SetNumbersSaid : Prop := setNumbersRow.holds Tryd.pinned (OpenSpec.ofChange setNumbersSpec)

/-- ITS FALSE NEIGHBOUR: 'it returns false'. Refute it at one input. -/
def setNumbersWrong : ChangeSpec := { name := "setNumbers", fn := fun _ => fun
  | [] => { results := [.lit (.bool false)], args := [] }
  | _ => none }
def SetNumbersWrongFalsely : Prop := setNumbersRow.holds Tryd.pinned (OpenSpec.ofChange setNumbersWrong)

/- THE SECOND FORM. 'bulk': how many values and letters a reading holds, each counted each time it is reached (what is shared counts as often as it is met; a slice's spare places count too). A statement '..UptoSaid' is the law's where the arguments, and the package variables that the reading takes, are together of bulk at most 1048576: NARROWER than '..Said'. Prove '..Said' where nothing that the law and all that it calls make is longer than what came in: it says more and counts as full. Else prove '..UptoSaid'. A law counts once. -/
mutual
def uptoBulk {H : Type} : DataW H → Nat
  | .lit (.string bytes) => bytes.length + 1
  | .lit _ => 1
  | .nil => 1
  | .ptr d => uptoBulk d + 1
  | .slice elems spare => uptoBulkAll elems + uptoBulkAll spare + 1
  | .agg parts => uptoBulkAll parts + 1
  | .iface _ d => uptoBulk d + 1
  | .map entries => uptoBulkEntries entries + 1
  | .held _ => 1
def uptoBulkAll {H : Type} : List (DataW H) → Nat
  | [] => 0
  | d :: r => uptoBulk d + uptoBulkAll r
def uptoBulkEntries {H : Type} : List (Lit × DataW H) → Nat
  | [] => 0
  | x :: r => uptoBulkEntry x + uptoBulkEntries r
def uptoBulkEntry {H : Type} : Lit × DataW H → Nat
  | (.string bytes, d) => bytes.length + uptoBulk d + 1
  | (_, d) => uptoBulk d + 1
 end
def uptoSmall : (H : Type) → List (DataW H) → Bool := fun _ ds => decide (uptoBulkAll ds ≤ 1048576)
def OpenSpec.upto (s : _root_.Go.ChangeSpec) : _root_.Go.OpenSpec := { _root_.Go.OpenSpec.ofChange s with cond := some uptoSmall }

/-- 'respelllaw02.SetOf', WHERE WHAT IT READS IS OF BULK AT MOST 1048576: true; the input reads as it did. -/
def setOfUptoRow : OpenClaim := { program := "ytmgkolelcflcbaadoor", sum := "8ed1259d1b5db4c9803693fdc2febc455069aa0cfaebd2c44fcf2924ade66de6", func := "respell/respelllaw02.SetOf", spec := "setOf", unfollowed := true, recurses := true, named := ["respell/set.blocks"], apart := false, laid := [("respell/set.blocks", laid_respell_set_blocks)], narrowed := true }
def SetOfUptoSaid : Prop := setOfUptoRow.holds Tryd.pinned (OpenSpec.upto setOfSpec)

/-- 'respelllaw02.SetAsks', WHERE WHAT IT READS IS OF BULK AT MOST 1048576: true; the input reads as it did. -/
def setAsksUptoRow : OpenClaim := { program := "ytmgkolelcflcbaadoor", sum := "8ed1259d1b5db4c9803693fdc2febc455069aa0cfaebd2c44fcf2924ade66de6", func := "respell/respelllaw02.SetAsks", spec := "setAsks", unfollowed := true, recurses := true, named := ["respell/set.blocks"], apart := false, laid := [("respell/set.blocks", laid_respell_set_blocks)], narrowed := true }
def SetAsksUptoSaid : Prop := setAsksUptoRow.holds Tryd.pinned (OpenSpec.upto setAsksSpec)

/-- 'respelllaw02.SetJoins', WHERE WHAT IT READS IS OF BULK AT MOST 1048576: true; the input reads as it did. -/
def setJoinsUptoRow : OpenClaim := { program := "ytmgkolelcflcbaadoor", sum := "8ed1259d1b5db4c9803693fdc2febc455069aa0cfaebd2c44fcf2924ade66de6", func := "respell/respelllaw02.SetJoins", spec := "setJoins", unfollowed := true, recurses := true, named := ["respell/set.blocks"], apart := false, laid := [("respell/set.blocks", laid_respell_set_blocks)], narrowed := true }
def SetJoinsUptoSaid : Prop := setJoinsUptoRow.holds Tryd.pinned (OpenSpec.upto setJoinsSpec)

/-- 'respelllaw02.SetLaws', WHERE WHAT IT READS IS OF BULK AT MOST 1048576: true; the input reads as it did. -/
def setLawsUptoRow : OpenClaim := { program := "ytmgkolelcflcbaadoor", sum := "8ed1259d1b5db4c9803693fdc2febc455069aa0cfaebd2c44fcf2924ade66de6", func := "respell/respelllaw02.SetLaws", spec := "setLaws", unfollowed := true, recurses := true, named := ["respell/set.blocks"], apart := false, laid := [("respell/set.blocks", laid_respell_set_blocks)], narrowed := true }
def SetLawsUptoSaid : Prop := setLawsUptoRow.holds Tryd.pinned (OpenSpec.upto setLawsSpec)

/-- 'respelllaw02.SetNumbers', WHERE WHAT IT READS IS OF BULK AT MOST 1048576: true; the input reads as it did. -/
def setNumbersUptoRow : OpenClaim := { program := "ytmgkolelcflcbaadoor", sum := "8ed1259d1b5db4c9803693fdc2febc455069aa0cfaebd2c44fcf2924ade66de6", func := "respell/respelllaw02.SetNumbers", spec := "setNumbers", unfollowed := true, recurses := true, named := ["respell/set.blocks"], apart := false, laid := [("respell/set.blocks", laid_respell_set_blocks)], narrowed := true }
def SetNumbersUptoSaid : Prop := setNumbersUptoRow.holds Tryd.pinned (OpenSpec.upto setNumbersSpec)

end Rows
end Go.Proofs.YtmgkolelcflcbaaDoor
