/-
  NARROWER THAN 'FOR EVERY INPUT', by the rows' own cells (each row's printed sentence says how): UtfTells: laid · UtfUnits: laid · UtfJoins: laid · UtfBorders: laid · UtfBack: laid · UtfRange: laid.
  DERIVED. THE GIVEN ROWS OF THIS SEAT. 6 by the template 'for every input the law returns true; each argument reads behind the call as it read before'; 0 by the template 'total and deterministic' (their statements: YtahifnjompmcbaaDoorTotals.lean).
  GIVEN WITH THE SEED: the statements are not yours to turn. If you find one false, say at which input.
  Laid BY PROGRAM, IN A SANDBOX (cutbox-rows.mjs): the forced cells as the released guide's own fill.sh prints them over the translation 9103991800e0d3dc… (all of the seat's roots in one cut). By AI agents, Wed Nov 11 2026. No macro, syntax, notation, axiom, sorry.
-/
import Derived.Test.YtahifnjompmcbaaDoorChecked
import GoSem.Claim
import GoSem.ClaimJoined
import GoSem.ClaimMapViews
import Derived.JoinedTies
import Derived.KernelRfl
namespace Go.Proofs.YtahifnjompmcbaaDoor
/- THE CELL 'sum', in the pinned program and in every row, IS THE sha256 OF THE DUMP (.gsa) THAT YtahifnjompmcbaaDoorProg.lean LOADS. Nothing in Lean hashes anything: it is a label: what it is worth is what the hold of that sum in a sandbox is worth. -/
noncomputable def Tryd.pinned : Pinned := { name := "ytahifnjompmcbaadoor", sum := "9103991800e0d3dcaa2f193b68b461647ef9500d80e3f81c84972149dead954c", checked := Tryd.checked }
namespace Rows
def none {H : Type} : Left H := { results := [], args := [] }

/- WHAT THE LISTED PACKAGE-LEVEL VARIABLES READ AS WHEN THE CALL BEGINS. Each datum BY PROGRAM (the guide's laid-datum.mjs) off the statement by which the dump's own 'gosem.cut.vars' lays the variable. In a bare row this is a premise. The card (YtahifnjompmcbaaDoorCards.lean) ties it to the program's text. -/
def laid_respell_utf_spellings {H : Type} : DataW H := .agg [.agg [.lit (.int .i64 192), .lit (.int .i64 2), .lit (.int .i64 128), .lit (.int .i64 2047)], .agg [.lit (.int .i64 224), .lit (.int .i64 3), .lit (.int .i64 2048), .lit (.int .i64 55295)], .agg [.lit (.int .i64 224), .lit (.int .i64 3), .lit (.int .i64 57344), .lit (.int .i64 65535)], .agg [.lit (.int .i64 240), .lit (.int .i64 4), .lit (.int .i64 65536), .lit (.int .i64 1114111)]]

/-- 'respelllaw01.UtfTells': WHATEVER THE INPUT: true; the input reads as it did. -/
def utfTellsSpec : ChangeSpec := { name := "utfTells", fn := fun _ => fun
  | [d1, d2] => { results := [.lit (.bool true)], args := [d1, d2] }
  | _ => none }
def utfTellsRow : OpenClaim := { program := "ytahifnjompmcbaadoor", sum := "9103991800e0d3dcaa2f193b68b461647ef9500d80e3f81c84972149dead954c", func := "respell/respelllaw01.UtfTells", spec := "utfTells", inPlace := ["internal/abi.NoEscape"], unfollowed := true, recurses := true, named := ["respell/utf.spellings"], apart := false, laid := [("respell/utf.spellings", laid_respell_utf_spellings)] }
def UtfTellsSaid : Prop := utfTellsRow.holds Tryd.pinned (OpenSpec.ofChange utfTellsSpec)

/-- ITS FALSE NEIGHBOUR: 'it returns false'. Refute it at one input. -/
def utfTellsWrong : ChangeSpec := { name := "utfTells", fn := fun _ => fun
  | [d1, d2] => { results := [.lit (.bool false)], args := [d1, d2] }
  | _ => none }
def UtfTellsWrongFalsely : Prop := utfTellsRow.holds Tryd.pinned (OpenSpec.ofChange utfTellsWrong)

/-- 'respelllaw01.UtfUnits': WHATEVER THE INPUT: true; the input reads as it did. -/
def utfUnitsSpec : ChangeSpec := { name := "utfUnits", fn := fun _ => fun
  | [d] => { results := [.lit (.bool true)], args := [d] }
  | _ => none }
def utfUnitsRow : OpenClaim := { program := "ytahifnjompmcbaadoor", sum := "9103991800e0d3dcaa2f193b68b461647ef9500d80e3f81c84972149dead954c", func := "respell/respelllaw01.UtfUnits", spec := "utfUnits", inPlace := ["internal/abi.NoEscape"], unfollowed := true, recurses := true, named := ["respell/utf.spellings"], apart := false, laid := [("respell/utf.spellings", laid_respell_utf_spellings)] }
def UtfUnitsSaid : Prop := utfUnitsRow.holds Tryd.pinned (OpenSpec.ofChange utfUnitsSpec)

/-- ITS FALSE NEIGHBOUR: 'it returns false'. Refute it at one input. -/
def utfUnitsWrong : ChangeSpec := { name := "utfUnits", fn := fun _ => fun
  | [d] => { results := [.lit (.bool false)], args := [d] }
  | _ => none }
def UtfUnitsWrongFalsely : Prop := utfUnitsRow.holds Tryd.pinned (OpenSpec.ofChange utfUnitsWrong)

/-- 'respelllaw01.UtfJoins': WHATEVER THE INPUT: true; the input reads as it did. -/
def utfJoinsSpec : ChangeSpec := { name := "utfJoins", fn := fun _ => fun
  | [d] => { results := [.lit (.bool true)], args := [d] }
  | _ => none }
def utfJoinsRow : OpenClaim := { program := "ytahifnjompmcbaadoor", sum := "9103991800e0d3dcaa2f193b68b461647ef9500d80e3f81c84972149dead954c", func := "respell/respelllaw01.UtfJoins", spec := "utfJoins", inPlace := ["internal/abi.NoEscape"], unfollowed := true, recurses := true, named := ["respell/utf.spellings"], apart := false, laid := [("respell/utf.spellings", laid_respell_utf_spellings)] }
def UtfJoinsSaid : Prop := utfJoinsRow.holds Tryd.pinned (OpenSpec.ofChange utfJoinsSpec)

/-- ITS FALSE NEIGHBOUR: 'it returns false'. Refute it at one input. -/
def utfJoinsWrong : ChangeSpec := { name := "utfJoins", fn := fun _ => fun
  | [d] => { results := [.lit (.bool false)], args := [d] }
  | _ => none }
def UtfJoinsWrongFalsely : Prop := utfJoinsRow.holds Tryd.pinned (OpenSpec.ofChange utfJoinsWrong)

/-- 'respelllaw01.UtfBorders': WHATEVER THE INPUT: true; the input reads as it did. -/
def utfBordersSpec : ChangeSpec := { name := "utfBorders", fn := fun _ => fun
  | [d1, d2] => { results := [.lit (.bool true)], args := [d1, d2] }
  | _ => none }
def utfBordersRow : OpenClaim := { program := "ytahifnjompmcbaadoor", sum := "9103991800e0d3dcaa2f193b68b461647ef9500d80e3f81c84972149dead954c", func := "respell/respelllaw01.UtfBorders", spec := "utfBorders", inPlace := ["internal/abi.NoEscape"], unfollowed := true, recurses := true, named := ["respell/utf.spellings"], apart := false, laid := [("respell/utf.spellings", laid_respell_utf_spellings)] }
def UtfBordersSaid : Prop := utfBordersRow.holds Tryd.pinned (OpenSpec.ofChange utfBordersSpec)

/-- ITS FALSE NEIGHBOUR: 'it returns false'. Refute it at one input. -/
def utfBordersWrong : ChangeSpec := { name := "utfBorders", fn := fun _ => fun
  | [d1, d2] => { results := [.lit (.bool false)], args := [d1, d2] }
  | _ => none }
def UtfBordersWrongFalsely : Prop := utfBordersRow.holds Tryd.pinned (OpenSpec.ofChange utfBordersWrong)

/-- 'respelllaw01.UtfBack': WHATEVER THE INPUT: true; the input reads as it did. -/
def utfBackSpec : ChangeSpec := { name := "utfBack", fn := fun _ => fun
  | [d1, d2] => { results := [.lit (.bool true)], args := [d1, d2] }
  | _ => none }
def utfBackRow : OpenClaim := { program := "ytahifnjompmcbaadoor", sum := "9103991800e0d3dcaa2f193b68b461647ef9500d80e3f81c84972149dead954c", func := "respell/respelllaw01.UtfBack", spec := "utfBack", inPlace := ["internal/abi.NoEscape"], unfollowed := true, recurses := true, named := ["respell/utf.spellings"], apart := false, laid := [("respell/utf.spellings", laid_respell_utf_spellings)] }
def UtfBackSaid : Prop := utfBackRow.holds Tryd.pinned (OpenSpec.ofChange utfBackSpec)

/-- ITS FALSE NEIGHBOUR: 'it returns false'. Refute it at one input. -/
def utfBackWrong : ChangeSpec := { name := "utfBack", fn := fun _ => fun
  | [d1, d2] => { results := [.lit (.bool false)], args := [d1, d2] }
  | _ => none }
def UtfBackWrongFalsely : Prop := utfBackRow.holds Tryd.pinned (OpenSpec.ofChange utfBackWrong)

/-- 'respelllaw01.UtfRange': WHATEVER THE INPUT: true; the input reads as it did. -/
def utfRangeSpec : ChangeSpec := { name := "utfRange", fn := fun _ => fun
  | [d] => { results := [.lit (.bool true)], args := [d] }
  | _ => none }
def utfRangeRow : OpenClaim := { program := "ytahifnjompmcbaadoor", sum := "9103991800e0d3dcaa2f193b68b461647ef9500d80e3f81c84972149dead954c", func := "respell/respelllaw01.UtfRange", spec := "utfRange", inPlace := ["internal/abi.NoEscape"], unfollowed := true, recurses := true, named := ["respell/utf.spellings"], apart := false, laid := [("respell/utf.spellings", laid_respell_utf_spellings)] }
def UtfRangeSaid : Prop := utfRangeRow.holds Tryd.pinned (OpenSpec.ofChange utfRangeSpec)

/-- ITS FALSE NEIGHBOUR: 'it returns false'. Refute it at one input. -/
def utfRangeWrong : ChangeSpec := { name := "utfRange", fn := fun _ => fun
  | [d] => { results := [.lit (.bool false)], args := [d] }
  | _ => none }
def UtfRangeWrongFalsely : Prop := utfRangeRow.holds Tryd.pinned (OpenSpec.ofChange utfRangeWrong)

/- THE SECOND FORM. 'bulk': how many values and letters a reading holds, each counted each time it is reached (what is shared counts as often as it is met; a slice's spare places count too). A statement '..UptoSaid' is the law's where the arguments, and the package variables that the reading takes, are together of bulk at most 1048576: NARROWER than '..Said'. Prove '..Said' where nothing that the law and all that it calls make is longer than what came in: it says more and counts as full. Else prove '..UptoSaid'. A law counts once. -/
mutual
def uptoBulk {H : Type} : DataW H → Nat
  | .lit (.string bytes) => bytes.length + 1
  | .lit _ => 1
  | .nil => 1
  | .ptr d => uptoBulk d + 1
  | .slice elems spare => uptoBulkAll elems + uptoBulkAll spare + 1
  | .agg parts => uptoBulkAll parts + 1
  | .iface _ d => uptoBulk d + 1
  | .map entries => uptoBulkEntries entries + 1
  | .held _ => 1
def uptoBulkAll {H : Type} : List (DataW H) → Nat
  | [] => 0
  | d :: r => uptoBulk d + uptoBulkAll r
def uptoBulkEntries {H : Type} : List (Lit × DataW H) → Nat
  | [] => 0
  | x :: r => uptoBulkEntry x + uptoBulkEntries r
def uptoBulkEntry {H : Type} : Lit × DataW H → Nat
  | (.string bytes, d) => bytes.length + uptoBulk d + 1
  | (_, d) => uptoBulk d + 1
 end
def uptoSmall : (H : Type) → List (DataW H) → Bool := fun _ ds => decide (uptoBulkAll ds ≤ 1048576)
def OpenSpec.upto (s : _root_.Go.ChangeSpec) : _root_.Go.OpenSpec := { _root_.Go.OpenSpec.ofChange s with cond := some uptoSmall }

/-- 'respelllaw01.UtfTells', WHERE WHAT IT READS IS OF BULK AT MOST 1048576: true; the input reads as it did. -/
def utfTellsUptoRow : OpenClaim := { program := "ytahifnjompmcbaadoor", sum := "9103991800e0d3dcaa2f193b68b461647ef9500d80e3f81c84972149dead954c", func := "respell/respelllaw01.UtfTells", spec := "utfTells", inPlace := ["internal/abi.NoEscape"], unfollowed := true, recurses := true, named := ["respell/utf.spellings"], apart := false, laid := [("respell/utf.spellings", laid_respell_utf_spellings)], narrowed := true }
def UtfTellsUptoSaid : Prop := utfTellsUptoRow.holds Tryd.pinned (OpenSpec.upto utfTellsSpec)

/-- 'respelllaw01.UtfUnits', WHERE WHAT IT READS IS OF BULK AT MOST 1048576: true; the input reads as it did. -/
def utfUnitsUptoRow : OpenClaim := { program := "ytahifnjompmcbaadoor", sum := "9103991800e0d3dcaa2f193b68b461647ef9500d80e3f81c84972149dead954c", func := "respell/respelllaw01.UtfUnits", spec := "utfUnits", inPlace := ["internal/abi.NoEscape"], unfollowed := true, recurses := true, named := ["respell/utf.spellings"], apart := false, laid := [("respell/utf.spellings", laid_respell_utf_spellings)], narrowed := true }
def UtfUnitsUptoSaid : Prop := utfUnitsUptoRow.holds Tryd.pinned (OpenSpec.upto utfUnitsSpec)

/-- 'respelllaw01.UtfJoins', WHERE WHAT IT READS IS OF BULK AT MOST 1048576: true; the input reads as it did. -/
def utfJoinsUptoRow : OpenClaim := { program := "ytahifnjompmcbaadoor", sum := "9103991800e0d3dcaa2f193b68b461647ef9500d80e3f81c84972149dead954c", func := "respell/respelllaw01.UtfJoins", spec := "utfJoins", inPlace := ["internal/abi.NoEscape"], unfollowed := true, recurses := true, named := ["respell/utf.spellings"], apart := false, laid := [("respell/utf.spellings", laid_respell_utf_spellings)], narrowed := true }
def UtfJoinsUptoSaid : Prop := utfJoinsUptoRow.holds Tryd.pinned (OpenSpec.upto utfJoinsSpec)

/-- 'respelllaw01.UtfBorders', WHERE WHAT IT READS IS OF BULK AT MOST 1048576: true; the input reads as it did. -/
def utfBordersUptoRow : OpenClaim := { program := "ytahifnjompmcbaadoor", sum := "9103991800e0d3dcaa2f193b68b461647ef9500d80e3f81c84972149dead954c", func := "respell/respelllaw01.UtfBorders", spec := "utfBorders", inPlace := ["internal/abi.NoEscape"], unfollowed := true, recurses := true, named := ["respell/utf.spellings"], apart := false, laid := [("respell/utf.spellings", laid_respell_utf_spellings)], narrowed := true }
def UtfBordersUptoSaid : Prop := utfBordersUptoRow.holds Tryd.pinned (OpenSpec.upto utfBordersSpec)

/-- 'respelllaw01.UtfBack', WHERE WHAT IT READS IS OF BULK AT MOST 1048576: true; the input reads as it did. -/
def utfBackUptoRow : OpenClaim := { program := "ytahifnjompmcbaadoor", sum := "9103991800e0d3dcaa2f193b68b461647ef9500d80e3f81c84972149dead954c", func := "respell/respelllaw01.UtfBack", spec := "utfBack", inPlace := ["internal/abi.NoEscape"], unfollowed := true, recurses := true, named := ["respell/utf.spellings"], apart := false, laid := [("respell/utf.spellings", laid_respell_utf_spellings)], narrowed := true }
def UtfBackUptoSaid : Prop := utfBackUptoRow.holds Tryd.pinned (OpenSpec.upto utfBackSpec)

/-- 'respelllaw01.UtfRange', WHERE WHAT IT READS IS OF BULK AT MOST 1048576: true; the input reads as it did. -/
def utfRangeUptoRow : OpenClaim := { program := "ytahifnjompmcbaadoor", sum := "9103991800e0d3dcaa2f193b68b461647ef9500d80e3f81c84972149dead954c", func := "respell/respelllaw01.UtfRange", spec := "utfRange", inPlace := ["internal/abi.NoEscape"], unfollowed := true, recurses := true, named := ["respell/utf.spellings"], apart := false, laid := [("respell/utf.spellings", laid_respell_utf_spellings)], narrowed := true }
def UtfRangeUptoSaid : Prop := utfRangeUptoRow.holds Tryd.pinned (OpenSpec.upto utfRangeSpec)

end Rows
end Go.Proofs.YtahifnjompmcbaaDoor
