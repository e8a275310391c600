/-
  NARROWER THAN 'FOR EVERY INPUT', by the rows' own cells (each row's printed sentence says how): UtfPieces: laid · UtfOpens: laid · UtfNumbers: laid.
  DERIVED. THE GIVEN ROWS OF THIS SEAT. 3 by the template 'for every input the law returns true; each argument reads behind the call as it read before'; 0 by the template 'total and deterministic' (their statements: YtahifnjompmcbabDoorTotals.lean).
  GIVEN WITH THE SEED: the statements are not yours to turn. If you find one false, say at which input.
  Laid BY PROGRAM, IN A SANDBOX (cutbox-rows.mjs): the forced cells as the released guide's own fill.sh prints them over the translation 7e78e9f4f6950e3f… (all of the seat's roots in one cut). By AI agents, Wed Nov 11 2026. No macro, syntax, notation, axiom, sorry.
-/
import Derived.Test.YtahifnjompmcbabDoorChecked
import GoSem.Claim
import GoSem.ClaimJoined
import GoSem.ClaimMapViews
import Derived.JoinedTies
import Derived.KernelRfl
namespace Go.Proofs.YtahifnjompmcbabDoor
/- THE CELL 'sum', in the pinned program and in every row, IS THE sha256 OF THE DUMP (.gsa) THAT YtahifnjompmcbabDoorProg.lean LOADS. Nothing in Lean hashes anything: it is a label: what it is worth is what the hold of that sum in a sandbox is worth. -/
noncomputable def Tryd.pinned : Pinned := { name := "ytahifnjompmcbabdoor", sum := "7e78e9f4f6950e3f252f43513f1e021b9649b625868f95499ddd112c5a8ef435", checked := Tryd.checked }
namespace Rows
def none {H : Type} : Left H := { results := [], args := [] }

/- WHAT THE LISTED PACKAGE-LEVEL VARIABLES READ AS WHEN THE CALL BEGINS. Each datum BY PROGRAM (the guide's laid-datum.mjs) off the statement by which the dump's own 'gosem.cut.vars' lays the variable. In a bare row this is a premise. The card (YtahifnjompmcbabDoorCards.lean) ties it to the program's text. -/
def laid_respell_utf_spellings {H : Type} : DataW H := .agg [.agg [.lit (.int .i64 192), .lit (.int .i64 2), .lit (.int .i64 128), .lit (.int .i64 2047)], .agg [.lit (.int .i64 224), .lit (.int .i64 3), .lit (.int .i64 2048), .lit (.int .i64 55295)], .agg [.lit (.int .i64 224), .lit (.int .i64 3), .lit (.int .i64 57344), .lit (.int .i64 65535)], .agg [.lit (.int .i64 240), .lit (.int .i64 4), .lit (.int .i64 65536), .lit (.int .i64 1114111)]]

/-- 'respelllaw01.UtfPieces': WHATEVER THE INPUT: true; the input reads as it did. -/
def utfPiecesSpec : ChangeSpec := { name := "utfPieces", fn := fun _ => fun
  | [d1, d2] => { results := [.lit (.bool true)], args := [d1, d2] }
  | _ => none }
def utfPiecesRow : OpenClaim := { program := "ytahifnjompmcbabdoor", sum := "7e78e9f4f6950e3f252f43513f1e021b9649b625868f95499ddd112c5a8ef435", func := "respell/respelllaw01.UtfPieces", spec := "utfPieces", inPlace := ["internal/abi.NoEscape"], unfollowed := true, recurses := true, named := ["respell/utf.spellings"], apart := false, laid := [("respell/utf.spellings", laid_respell_utf_spellings)] }
def UtfPiecesSaid : Prop := utfPiecesRow.holds Tryd.pinned (OpenSpec.ofChange utfPiecesSpec)

/-- ITS FALSE NEIGHBOUR: 'it returns false'. Refute it at one input. -/
def utfPiecesWrong : ChangeSpec := { name := "utfPieces", fn := fun _ => fun
  | [d1, d2] => { results := [.lit (.bool false)], args := [d1, d2] }
  | _ => none }
def UtfPiecesWrongFalsely : Prop := utfPiecesRow.holds Tryd.pinned (OpenSpec.ofChange utfPiecesWrong)

/-- 'respelllaw01.UtfOpens': WHATEVER THE INPUT: true; the input reads as it did. -/
def utfOpensSpec : ChangeSpec := { name := "utfOpens", fn := fun _ => fun
  | [d1, d2, d3] => { results := [.lit (.bool true)], args := [d1, d2, d3] }
  | _ => none }
def utfOpensRow : OpenClaim := { program := "ytahifnjompmcbabdoor", sum := "7e78e9f4f6950e3f252f43513f1e021b9649b625868f95499ddd112c5a8ef435", func := "respell/respelllaw01.UtfOpens", spec := "utfOpens", inPlace := ["internal/abi.NoEscape"], unfollowed := true, recurses := true, named := ["respell/utf.spellings"], apart := false, laid := [("respell/utf.spellings", laid_respell_utf_spellings)] }
def UtfOpensSaid : Prop := utfOpensRow.holds Tryd.pinned (OpenSpec.ofChange utfOpensSpec)

/-- ITS FALSE NEIGHBOUR: 'it returns false'. Refute it at one input. -/
def utfOpensWrong : ChangeSpec := { name := "utfOpens", fn := fun _ => fun
  | [d1, d2, d3] => { results := [.lit (.bool false)], args := [d1, d2, d3] }
  | _ => none }
def UtfOpensWrongFalsely : Prop := utfOpensRow.holds Tryd.pinned (OpenSpec.ofChange utfOpensWrong)

/-- 'respelllaw01.UtfNumbers': WHATEVER THE INPUT: true; the input reads as it did. -/
def utfNumbersSpec : ChangeSpec := { name := "utfNumbers", fn := fun _ => fun
  | [] => { results := [.lit (.bool true)], args := [] }
  | _ => none }
def utfNumbersRow : OpenClaim := { program := "ytahifnjompmcbabdoor", sum := "7e78e9f4f6950e3f252f43513f1e021b9649b625868f95499ddd112c5a8ef435", func := "respell/respelllaw01.UtfNumbers", spec := "utfNumbers", inPlace := ["internal/abi.NoEscape"], unfollowed := true, recurses := true, named := ["respell/utf.spellings"], apart := false, laid := [("respell/utf.spellings", laid_respell_utf_spellings)] }
def UtfNumbersSaid : Prop := utfNumbersRow.holds Tryd.pinned (OpenSpec.ofChange utfNumbersSpec)

/-- ITS FALSE NEIGHBOUR: 'it returns false'. Refute it at one input. -/
def utfNumbersWrong : ChangeSpec := { name := "utfNumbers", fn := fun _ => fun
  | [] => { results := [.lit (.bool false)], args := [] }
  | _ => none }
def UtfNumbersWrongFalsely : Prop := utfNumbersRow.holds Tryd.pinned (OpenSpec.ofChange utfNumbersWrong)

/- THE SECOND FORM. 'bulk': how many values and letters a reading holds, each counted each time it is reached (what is shared counts as often as it is met; a slice's spare places count too). A statement '..UptoSaid' is the law's where the arguments, and the package variables that the reading takes, are together of bulk at most 1048576: NARROWER than '..Said'. Prove '..Said' where nothing that the law and all that it calls make is longer than what came in: it says more and counts as full. Else prove '..UptoSaid'. A law counts once. -/
mutual
def uptoBulk {H : Type} : DataW H → Nat
  | .lit (.string bytes) => bytes.length + 1
  | .lit _ => 1
  | .nil => 1
  | .ptr d => uptoBulk d + 1
  | .slice elems spare => uptoBulkAll elems + uptoBulkAll spare + 1
  | .agg parts => uptoBulkAll parts + 1
  | .iface _ d => uptoBulk d + 1
  | .map entries => uptoBulkEntries entries + 1
  | .held _ => 1
def uptoBulkAll {H : Type} : List (DataW H) → Nat
  | [] => 0
  | d :: r => uptoBulk d + uptoBulkAll r
def uptoBulkEntries {H : Type} : List (Lit × DataW H) → Nat
  | [] => 0
  | x :: r => uptoBulkEntry x + uptoBulkEntries r
def uptoBulkEntry {H : Type} : Lit × DataW H → Nat
  | (.string bytes, d) => bytes.length + uptoBulk d + 1
  | (_, d) => uptoBulk d + 1
 end
def uptoSmall : (H : Type) → List (DataW H) → Bool := fun _ ds => decide (uptoBulkAll ds ≤ 1048576)
def OpenSpec.upto (s : _root_.Go.ChangeSpec) : _root_.Go.OpenSpec := { _root_.Go.OpenSpec.ofChange s with cond := some uptoSmall }

/-- 'respelllaw01.UtfPieces', WHERE WHAT IT READS IS OF BULK AT MOST 1048576: true; the input reads as it did. -/
def utfPiecesUptoRow : OpenClaim := { program := "ytahifnjompmcbabdoor", sum := "7e78e9f4f6950e3f252f43513f1e021b9649b625868f95499ddd112c5a8ef435", func := "respell/respelllaw01.UtfPieces", spec := "utfPieces", inPlace := ["internal/abi.NoEscape"], unfollowed := true, recurses := true, named := ["respell/utf.spellings"], apart := false, laid := [("respell/utf.spellings", laid_respell_utf_spellings)], narrowed := true }
def UtfPiecesUptoSaid : Prop := utfPiecesUptoRow.holds Tryd.pinned (OpenSpec.upto utfPiecesSpec)

/-- 'respelllaw01.UtfOpens', WHERE WHAT IT READS IS OF BULK AT MOST 1048576: true; the input reads as it did. -/
def utfOpensUptoRow : OpenClaim := { program := "ytahifnjompmcbabdoor", sum := "7e78e9f4f6950e3f252f43513f1e021b9649b625868f95499ddd112c5a8ef435", func := "respell/respelllaw01.UtfOpens", spec := "utfOpens", inPlace := ["internal/abi.NoEscape"], unfollowed := true, recurses := true, named := ["respell/utf.spellings"], apart := false, laid := [("respell/utf.spellings", laid_respell_utf_spellings)], narrowed := true }
def UtfOpensUptoSaid : Prop := utfOpensUptoRow.holds Tryd.pinned (OpenSpec.upto utfOpensSpec)

/-- 'respelllaw01.UtfNumbers', WHERE WHAT IT READS IS OF BULK AT MOST 1048576: true; the input reads as it did. -/
def utfNumbersUptoRow : OpenClaim := { program := "ytahifnjompmcbabdoor", sum := "7e78e9f4f6950e3f252f43513f1e021b9649b625868f95499ddd112c5a8ef435", func := "respell/respelllaw01.UtfNumbers", spec := "utfNumbers", inPlace := ["internal/abi.NoEscape"], unfollowed := true, recurses := true, named := ["respell/utf.spellings"], apart := false, laid := [("respell/utf.spellings", laid_respell_utf_spellings)], narrowed := true }
def UtfNumbersUptoSaid : Prop := utfNumbersUptoRow.holds Tryd.pinned (OpenSpec.upto utfNumbersSpec)

end Rows
end Go.Proofs.YtahifnjompmcbabDoor
