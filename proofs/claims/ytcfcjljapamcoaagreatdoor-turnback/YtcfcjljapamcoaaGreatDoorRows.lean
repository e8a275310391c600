/-
  NARROWER THAN 'FOR EVERY INPUT', by the rows' own cells (each row's printed sentence says how): TurnTells: laid · TurnOver: laid · TurnBack: laid · TurnTwice: laid · TurnNames: laid · RoundTells: laid.
  DERIVED. THE GIVEN ROWS OF THIS SEAT. 6 by the template 'for every input the law returns true; each argument reads behind the call as it read before'; 0 by the template 'total and deterministic' (their statements: YtcfcjljapamcoaaGreatDoorTotals.lean).
  GIVEN WITH THE SEED: the statements are not yours to turn. If you find one false, say at which input.
  Laid BY PROGRAM, IN A SANDBOX (cutbox-rows.mjs): the forced cells as the released guide's own fill.sh prints them over the translation bbead89e743355b6… (all of the seat's roots in one cut). By AI agents, Wed Nov 11 2026. No macro, syntax, notation, axiom, sorry.
-/
import Derived.Test.YtcfcjljapamcoaaGreatDoorChecked
import GoSem.Claim
import GoSem.ClaimJoined
import GoSem.ClaimMapViews
import Derived.JoinedTies
import Derived.KernelRfl
namespace Go.Proofs.YtcfcjljapamcoaaGreatDoor
/- THE CELL 'sum', in the pinned program and in every row, IS THE sha256 OF THE DUMP (.gsa) THAT YtcfcjljapamcoaaGreatDoorProg.lean LOADS. Nothing in Lean hashes anything: it is a label: what it is worth is what the hold of that sum in a sandbox is worth. -/
noncomputable def Tryz.pinned : Pinned := { name := "ytcfcjljapamcoaagreatdoor", sum := "bbead89e743355b68dbf958f01bf82bda4b1014d29b03023dd1f96e604fa22fc", checked := Tryz.checked }
namespace Rows
def none {H : Type} : Left H := { results := [], args := [] }

/- WHAT THE LISTED PACKAGE-LEVEL VARIABLES READ AS WHEN THE CALL BEGINS. Each datum BY PROGRAM (the guide's laid-datum.mjs) off the statement by which the dump's own 'gosem.cut.vars' lays the variable. In a bare row this is a premise. The card (YtcfcjljapamcoaaGreatDoorCards.lean) ties it to the program's text. -/
def laid_respell_set_blocks {H : Type} : DataW H := .agg [.agg [.lit (.int .i64 0), .lit (.int .i64 55295)], .agg [.lit (.int .i64 57344), .lit (.int .i64 1114111)], .agg [.lit (.int .i64 1114240), .lit (.int .i64 1114367)]]

/-- 'respelllaw19.TurnTells': WHATEVER THE INPUT: true; the input reads as it did. -/
def turnTellsSpec : ChangeSpec := { name := "turnTells", fn := fun _ => fun
  | [d1, d2] => { results := [.lit (.bool true)], args := [d1, d2] }
  | _ => none }
def turnTellsRow : OpenClaim := { program := "ytcfcjljapamcoaagreatdoor", sum := "bbead89e743355b68dbf958f01bf82bda4b1014d29b03023dd1f96e604fa22fc", func := "respell/respelllaw19.TurnTells", spec := "turnTells", unfollowed := true, recurses := true, named := ["respell/set.blocks"], apart := false, laid := [("respell/set.blocks", laid_respell_set_blocks)] }
def TurnTellsSaid : Prop := turnTellsRow.holds Tryz.pinned (OpenSpec.ofChange turnTellsSpec)

/-- ITS FALSE NEIGHBOUR: 'it returns false'. Refute it at one input. -/
def turnTellsWrong : ChangeSpec := { name := "turnTells", fn := fun _ => fun
  | [d1, d2] => { results := [.lit (.bool false)], args := [d1, d2] }
  | _ => none }
def TurnTellsWrongFalsely : Prop := turnTellsRow.holds Tryz.pinned (OpenSpec.ofChange turnTellsWrong)

/-- 'respelllaw19.TurnOver': WHATEVER THE INPUT: true; the input reads as it did. -/
def turnOverSpec : ChangeSpec := { name := "turnOver", fn := fun _ => fun
  | [d] => { results := [.lit (.bool true)], args := [d] }
  | _ => none }
def turnOverRow : OpenClaim := { program := "ytcfcjljapamcoaagreatdoor", sum := "bbead89e743355b68dbf958f01bf82bda4b1014d29b03023dd1f96e604fa22fc", func := "respell/respelllaw19.TurnOver", spec := "turnOver", unfollowed := true, recurses := true, named := ["respell/set.blocks"], apart := false, laid := [("respell/set.blocks", laid_respell_set_blocks)] }
def TurnOverSaid : Prop := turnOverRow.holds Tryz.pinned (OpenSpec.ofChange turnOverSpec)

/-- ITS FALSE NEIGHBOUR: 'it returns false'. Refute it at one input. -/
def turnOverWrong : ChangeSpec := { name := "turnOver", fn := fun _ => fun
  | [d] => { results := [.lit (.bool false)], args := [d] }
  | _ => none }
def TurnOverWrongFalsely : Prop := turnOverRow.holds Tryz.pinned (OpenSpec.ofChange turnOverWrong)

/-- 'respelllaw19.TurnBack': WHATEVER THE INPUT: true; the input reads as it did. -/
def turnBackSpec : ChangeSpec := { name := "turnBack", fn := fun _ => fun
  | [d1, d2] => { results := [.lit (.bool true)], args := [d1, d2] }
  | _ => none }
def turnBackRow : OpenClaim := { program := "ytcfcjljapamcoaagreatdoor", sum := "bbead89e743355b68dbf958f01bf82bda4b1014d29b03023dd1f96e604fa22fc", func := "respell/respelllaw19.TurnBack", spec := "turnBack", unfollowed := true, recurses := true, named := ["respell/set.blocks"], apart := false, laid := [("respell/set.blocks", laid_respell_set_blocks)] }
def TurnBackSaid : Prop := turnBackRow.holds Tryz.pinned (OpenSpec.ofChange turnBackSpec)

/-- ITS FALSE NEIGHBOUR: 'it returns false'. Refute it at one input. -/
def turnBackWrong : ChangeSpec := { name := "turnBack", fn := fun _ => fun
  | [d1, d2] => { results := [.lit (.bool false)], args := [d1, d2] }
  | _ => none }
def TurnBackWrongFalsely : Prop := turnBackRow.holds Tryz.pinned (OpenSpec.ofChange turnBackWrong)

/-- 'respelllaw19.TurnTwice': WHATEVER THE INPUT: true; the input reads as it did. -/
def turnTwiceSpec : ChangeSpec := { name := "turnTwice", fn := fun _ => fun
  | [d1, d2] => { results := [.lit (.bool true)], args := [d1, d2] }
  | _ => none }
def turnTwiceRow : OpenClaim := { program := "ytcfcjljapamcoaagreatdoor", sum := "bbead89e743355b68dbf958f01bf82bda4b1014d29b03023dd1f96e604fa22fc", func := "respell/respelllaw19.TurnTwice", spec := "turnTwice", unfollowed := true, recurses := true, named := ["respell/set.blocks"], apart := false, laid := [("respell/set.blocks", laid_respell_set_blocks)] }
def TurnTwiceSaid : Prop := turnTwiceRow.holds Tryz.pinned (OpenSpec.ofChange turnTwiceSpec)

/-- ITS FALSE NEIGHBOUR: 'it returns false'. Refute it at one input. -/
def turnTwiceWrong : ChangeSpec := { name := "turnTwice", fn := fun _ => fun
  | [d1, d2] => { results := [.lit (.bool false)], args := [d1, d2] }
  | _ => none }
def TurnTwiceWrongFalsely : Prop := turnTwiceRow.holds Tryz.pinned (OpenSpec.ofChange turnTwiceWrong)

/-- 'respelllaw19.TurnNames': WHATEVER THE INPUT: true; the input reads as it did. -/
def turnNamesSpec : ChangeSpec := { name := "turnNames", fn := fun _ => fun
  | [] => { results := [.lit (.bool true)], args := [] }
  | _ => none }
def turnNamesRow : OpenClaim := { program := "ytcfcjljapamcoaagreatdoor", sum := "bbead89e743355b68dbf958f01bf82bda4b1014d29b03023dd1f96e604fa22fc", func := "respell/respelllaw19.TurnNames", spec := "turnNames", unfollowed := true, recurses := true, named := ["respell/set.blocks"], apart := false, laid := [("respell/set.blocks", laid_respell_set_blocks)] }
def TurnNamesSaid : Prop := turnNamesRow.holds Tryz.pinned (OpenSpec.ofChange turnNamesSpec)

/-- ITS FALSE NEIGHBOUR: 'it returns false'. Refute it at one input. -/
def turnNamesWrong : ChangeSpec := { name := "turnNames", fn := fun _ => fun
  | [] => { results := [.lit (.bool false)], args := [] }
  | _ => none }
def TurnNamesWrongFalsely : Prop := turnNamesRow.holds Tryz.pinned (OpenSpec.ofChange turnNamesWrong)

/-- 'respelllaw20.RoundTells': WHATEVER THE INPUT: true; the input reads as it did. -/
def roundTellsSpec : ChangeSpec := { name := "roundTells", fn := fun _ => fun
  | [d1, d2] => { results := [.lit (.bool true)], args := [d1, d2] }
  | _ => none }
def roundTellsRow : OpenClaim := { program := "ytcfcjljapamcoaagreatdoor", sum := "bbead89e743355b68dbf958f01bf82bda4b1014d29b03023dd1f96e604fa22fc", func := "respell/respelllaw20.RoundTells", spec := "roundTells", inPlace := ["internal/abi.NoEscape"], unfollowed := true, recurses := true, named := ["respell/set.blocks"], apart := false, laid := [("respell/set.blocks", laid_respell_set_blocks)] }
def RoundTellsSaid : Prop := roundTellsRow.holds Tryz.pinned (OpenSpec.ofChange roundTellsSpec)

/-- ITS FALSE NEIGHBOUR: 'it returns false'. Refute it at one input. -/
def roundTellsWrong : ChangeSpec := { name := "roundTells", fn := fun _ => fun
  | [d1, d2] => { results := [.lit (.bool false)], args := [d1, d2] }
  | _ => none }
def RoundTellsWrongFalsely : Prop := roundTellsRow.holds Tryz.pinned (OpenSpec.ofChange roundTellsWrong)

/- THE SECOND FORM. 'bulk': how many values and letters a reading holds, each counted each time it is reached (what is shared counts as often as it is met; a slice's spare places count too). A statement '..UptoSaid' is the law's where the arguments, and the package variables that the reading takes, are together of bulk at most 1048576: NARROWER than '..Said'. Prove '..Said' where nothing that the law and all that it calls make is longer than what came in: it says more and counts as full. Else prove '..UptoSaid'. A law counts once. -/
mutual
def uptoBulk {H : Type} : DataW H → Nat
  | .lit (.string bytes) => bytes.length + 1
  | .lit _ => 1
  | .nil => 1
  | .ptr d => uptoBulk d + 1
  | .slice elems spare => uptoBulkAll elems + uptoBulkAll spare + 1
  | .agg parts => uptoBulkAll parts + 1
  | .iface _ d => uptoBulk d + 1
  | .map entries => uptoBulkEntries entries + 1
  | .held _ => 1
def uptoBulkAll {H : Type} : List (DataW H) → Nat
  | [] => 0
  | d :: r => uptoBulk d + uptoBulkAll r
def uptoBulkEntries {H : Type} : List (Lit × DataW H) → Nat
  | [] => 0
  | x :: r => uptoBulkEntry x + uptoBulkEntries r
def uptoBulkEntry {H : Type} : Lit × DataW H → Nat
  | (.string bytes, d) => bytes.length + uptoBulk d + 1
  | (_, d) => uptoBulk d + 1
 end
def uptoSmall : (H : Type) → List (DataW H) → Bool := fun _ ds => decide (uptoBulkAll ds ≤ 1048576)
def OpenSpec.upto (s : _root_.Go.ChangeSpec) : _root_.Go.OpenSpec := { _root_.Go.OpenSpec.ofChange s with cond := some uptoSmall }

/-- 'respelllaw19.TurnTells', WHERE WHAT IT READS IS OF BULK AT MOST 1048576: true; the input reads as it did. -/
def turnTellsUptoRow : OpenClaim := { program := "ytcfcjljapamcoaagreatdoor", sum := "bbead89e743355b68dbf958f01bf82bda4b1014d29b03023dd1f96e604fa22fc", func := "respell/respelllaw19.TurnTells", spec := "turnTells", unfollowed := true, recurses := true, named := ["respell/set.blocks"], apart := false, laid := [("respell/set.blocks", laid_respell_set_blocks)], narrowed := true }
def TurnTellsUptoSaid : Prop := turnTellsUptoRow.holds Tryz.pinned (OpenSpec.upto turnTellsSpec)

/-- 'respelllaw19.TurnOver', WHERE WHAT IT READS IS OF BULK AT MOST 1048576: true; the input reads as it did. -/
def turnOverUptoRow : OpenClaim := { program := "ytcfcjljapamcoaagreatdoor", sum := "bbead89e743355b68dbf958f01bf82bda4b1014d29b03023dd1f96e604fa22fc", func := "respell/respelllaw19.TurnOver", spec := "turnOver", unfollowed := true, recurses := true, named := ["respell/set.blocks"], apart := false, laid := [("respell/set.blocks", laid_respell_set_blocks)], narrowed := true }
def TurnOverUptoSaid : Prop := turnOverUptoRow.holds Tryz.pinned (OpenSpec.upto turnOverSpec)

/-- 'respelllaw19.TurnBack', WHERE WHAT IT READS IS OF BULK AT MOST 1048576: true; the input reads as it did. -/
def turnBackUptoRow : OpenClaim := { program := "ytcfcjljapamcoaagreatdoor", sum := "bbead89e743355b68dbf958f01bf82bda4b1014d29b03023dd1f96e604fa22fc", func := "respell/respelllaw19.TurnBack", spec := "turnBack", unfollowed := true, recurses := true, named := ["respell/set.blocks"], apart := false, laid := [("respell/set.blocks", laid_respell_set_blocks)], narrowed := true }
def TurnBackUptoSaid : Prop := turnBackUptoRow.holds Tryz.pinned (OpenSpec.upto turnBackSpec)

/-- 'respelllaw19.TurnTwice', WHERE WHAT IT READS IS OF BULK AT MOST 1048576: true; the input reads as it did. -/
def turnTwiceUptoRow : OpenClaim := { program := "ytcfcjljapamcoaagreatdoor", sum := "bbead89e743355b68dbf958f01bf82bda4b1014d29b03023dd1f96e604fa22fc", func := "respell/respelllaw19.TurnTwice", spec := "turnTwice", unfollowed := true, recurses := true, named := ["respell/set.blocks"], apart := false, laid := [("respell/set.blocks", laid_respell_set_blocks)], narrowed := true }
def TurnTwiceUptoSaid : Prop := turnTwiceUptoRow.holds Tryz.pinned (OpenSpec.upto turnTwiceSpec)

/-- 'respelllaw19.TurnNames', WHERE WHAT IT READS IS OF BULK AT MOST 1048576: true; the input reads as it did. -/
def turnNamesUptoRow : OpenClaim := { program := "ytcfcjljapamcoaagreatdoor", sum := "bbead89e743355b68dbf958f01bf82bda4b1014d29b03023dd1f96e604fa22fc", func := "respell/respelllaw19.TurnNames", spec := "turnNames", unfollowed := true, recurses := true, named := ["respell/set.blocks"], apart := false, laid := [("respell/set.blocks", laid_respell_set_blocks)], narrowed := true }
def TurnNamesUptoSaid : Prop := turnNamesUptoRow.holds Tryz.pinned (OpenSpec.upto turnNamesSpec)

/-- 'respelllaw20.RoundTells', WHERE WHAT IT READS IS OF BULK AT MOST 1048576: true; the input reads as it did. -/
def roundTellsUptoRow : OpenClaim := { program := "ytcfcjljapamcoaagreatdoor", sum := "bbead89e743355b68dbf958f01bf82bda4b1014d29b03023dd1f96e604fa22fc", func := "respell/respelllaw20.RoundTells", spec := "roundTells", inPlace := ["internal/abi.NoEscape"], unfollowed := true, recurses := true, named := ["respell/set.blocks"], apart := false, laid := [("respell/set.blocks", laid_respell_set_blocks)], narrowed := true }
def RoundTellsUptoSaid : Prop := roundTellsUptoRow.holds Tryz.pinned (OpenSpec.upto roundTellsSpec)

end Rows
end Go.Proofs.YtcfcjljapamcoaaGreatDoor
