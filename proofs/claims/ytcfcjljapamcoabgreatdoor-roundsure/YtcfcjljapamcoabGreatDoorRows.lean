/-
  NARROWER THAN 'FOR EVERY INPUT', by the rows' own cells (each row's printed sentence says how): RoundSure: laid · RoundNumbers: laid.
  DERIVED. THE GIVEN ROWS OF THIS SEAT. 2 by the template 'for every input the law returns true; each argument reads behind the call as it read before'; 0 by the template 'total and deterministic' (their statements: YtcfcjljapamcoabGreatDoorTotals.lean).
  GIVEN WITH THE SEED: the statements are not yours to turn. If you find one false, say at which input.
  Laid BY PROGRAM, IN A SANDBOX (cutbox-rows.mjs): the forced cells as the released guide's own fill.sh prints them over the translation 1b4097da71f655a9… (all of the seat's roots in one cut). By AI agents, Wed Nov 11 2026. No macro, syntax, notation, axiom, sorry.
-/
import Derived.Test.YtcfcjljapamcoabGreatDoorChecked
import GoSem.Claim
import GoSem.ClaimJoined
import GoSem.ClaimMapViews
import Derived.JoinedTies
import Derived.KernelRfl
namespace Go.Proofs.YtcfcjljapamcoabGreatDoor
/- THE CELL 'sum', in the pinned program and in every row, IS THE sha256 OF THE DUMP (.gsa) THAT YtcfcjljapamcoabGreatDoorProg.lean LOADS. Nothing in Lean hashes anything: it is a label: what it is worth is what the hold of that sum in a sandbox is worth. -/
noncomputable def Tryz.pinned : Pinned := { name := "ytcfcjljapamcoabgreatdoor", sum := "1b4097da71f655a923f6d50cc287430e013efb93b468d5c13e0e45aa2231b985", checked := Tryz.checked }
namespace Rows
def none {H : Type} : Left H := { results := [], args := [] }

/- WHAT THE LISTED PACKAGE-LEVEL VARIABLES READ AS WHEN THE CALL BEGINS. Each datum BY PROGRAM (the guide's laid-datum.mjs) off the statement by which the dump's own 'gosem.cut.vars' lays the variable. In a bare row this is a premise. The card (YtcfcjljapamcoabGreatDoorCards.lean) ties it to the program's text. -/
def laid_respell_set_blocks {H : Type} : DataW H := .agg [.agg [.lit (.int .i64 0), .lit (.int .i64 55295)], .agg [.lit (.int .i64 57344), .lit (.int .i64 1114111)], .agg [.lit (.int .i64 1114240), .lit (.int .i64 1114367)]]

/-- 'respelllaw20.RoundSure': WHATEVER THE INPUT: true; the input reads as it did. -/
def roundSureSpec : ChangeSpec := { name := "roundSure", fn := fun _ => fun
  | [d1, d2, d3] => { results := [.lit (.bool true)], args := [d1, d2, d3] }
  | _ => none }
def roundSureRow : OpenClaim := { program := "ytcfcjljapamcoabgreatdoor", sum := "1b4097da71f655a923f6d50cc287430e013efb93b468d5c13e0e45aa2231b985", func := "respell/respelllaw20.RoundSure", spec := "roundSure", inPlace := ["internal/abi.NoEscape"], unfollowed := true, recurses := true, named := ["respell/set.blocks"], apart := false, laid := [("respell/set.blocks", laid_respell_set_blocks)] }
def RoundSureSaid : Prop := roundSureRow.holds Tryz.pinned (OpenSpec.ofChange roundSureSpec)

/-- ITS FALSE NEIGHBOUR: 'it returns false'. Refute it at one input. -/
def roundSureWrong : ChangeSpec := { name := "roundSure", fn := fun _ => fun
  | [d1, d2, d3] => { results := [.lit (.bool false)], args := [d1, d2, d3] }
  | _ => none }
def RoundSureWrongFalsely : Prop := roundSureRow.holds Tryz.pinned (OpenSpec.ofChange roundSureWrong)

/-- 'respelllaw20.RoundNumbers': WHATEVER THE INPUT: true; the input reads as it did. -/
def roundNumbersSpec : ChangeSpec := { name := "roundNumbers", fn := fun _ => fun
  | [] => { results := [.lit (.bool true)], args := [] }
  | _ => none }
def roundNumbersRow : OpenClaim := { program := "ytcfcjljapamcoabgreatdoor", sum := "1b4097da71f655a923f6d50cc287430e013efb93b468d5c13e0e45aa2231b985", func := "respell/respelllaw20.RoundNumbers", spec := "roundNumbers", inPlace := ["internal/abi.NoEscape"], unfollowed := true, recurses := true, named := ["respell/set.blocks"], apart := false, laid := [("respell/set.blocks", laid_respell_set_blocks)] }
def RoundNumbersSaid : Prop := roundNumbersRow.holds Tryz.pinned (OpenSpec.ofChange roundNumbersSpec)

/-- ITS FALSE NEIGHBOUR: 'it returns false'. Refute it at one input. -/
def roundNumbersWrong : ChangeSpec := { name := "roundNumbers", fn := fun _ => fun
  | [] => { results := [.lit (.bool false)], args := [] }
  | _ => none }
def RoundNumbersWrongFalsely : Prop := roundNumbersRow.holds Tryz.pinned (OpenSpec.ofChange roundNumbersWrong)

/- THE SECOND FORM. 'bulk': how many values and letters a reading holds, each counted each time it is reached (what is shared counts as often as it is met; a slice's spare places count too). A statement '..UptoSaid' is the law's where the arguments, and the package variables that the reading takes, are together of bulk at most 1048576: NARROWER than '..Said'. Prove '..Said' where nothing that the law and all that it calls make is longer than what came in: it says more and counts as full. Else prove '..UptoSaid'. A law counts once. -/
mutual
def uptoBulk {H : Type} : DataW H → Nat
  | .lit (.string bytes) => bytes.length + 1
  | .lit _ => 1
  | .nil => 1
  | .ptr d => uptoBulk d + 1
  | .slice elems spare => uptoBulkAll elems + uptoBulkAll spare + 1
  | .agg parts => uptoBulkAll parts + 1
  | .iface _ d => uptoBulk d + 1
  | .map entries => uptoBulkEntries entries + 1
  | .held _ => 1
def uptoBulkAll {H : Type} : List (DataW H) → Nat
  | [] => 0
  | d :: r => uptoBulk d + uptoBulkAll r
def uptoBulkEntries {H : Type} : List (Lit × DataW H) → Nat
  | [] => 0
  | x :: r => uptoBulkEntry x + uptoBulkEntries r
def uptoBulkEntry {H : Type} : Lit × DataW H → Nat
  | (.string bytes, d) => bytes.length + uptoBulk d + 1
  | (_, d) => uptoBulk d + 1
 end
def uptoSmall : (H : Type) → List (DataW H) → Bool := fun _ ds => decide (uptoBulkAll ds ≤ 1048576)
def OpenSpec.upto (s : _root_.Go.ChangeSpec) : _root_.Go.OpenSpec := { _root_.Go.OpenSpec.ofChange s with cond := some uptoSmall }

/-- 'respelllaw20.RoundSure', WHERE WHAT IT READS IS OF BULK AT MOST 1048576: true; the input reads as it did. -/
def roundSureUptoRow : OpenClaim := { program := "ytcfcjljapamcoabgreatdoor", sum := "1b4097da71f655a923f6d50cc287430e013efb93b468d5c13e0e45aa2231b985", func := "respell/respelllaw20.RoundSure", spec := "roundSure", inPlace := ["internal/abi.NoEscape"], unfollowed := true, recurses := true, named := ["respell/set.blocks"], apart := false, laid := [("respell/set.blocks", laid_respell_set_blocks)], narrowed := true }
def RoundSureUptoSaid : Prop := roundSureUptoRow.holds Tryz.pinned (OpenSpec.upto roundSureSpec)

/-- 'respelllaw20.RoundNumbers', WHERE WHAT IT READS IS OF BULK AT MOST 1048576: true; the input reads as it did. -/
def roundNumbersUptoRow : OpenClaim := { program := "ytcfcjljapamcoabgreatdoor", sum := "1b4097da71f655a923f6d50cc287430e013efb93b468d5c13e0e45aa2231b985", func := "respell/respelllaw20.RoundNumbers", spec := "roundNumbers", inPlace := ["internal/abi.NoEscape"], unfollowed := true, recurses := true, named := ["respell/set.blocks"], apart := false, laid := [("respell/set.blocks", laid_respell_set_blocks)], narrowed := true }
def RoundNumbersUptoSaid : Prop := roundNumbersUptoRow.holds Tryz.pinned (OpenSpec.upto roundNumbersSpec)

end Rows
end Go.Proofs.YtcfcjljapamcoabGreatDoor
