/-
  DERIVED. GIVEN WITH THE SEED: THE CARDS: each row of YtahifnjompmcbabDoorRows.lean that lists a variable, with what it lists TIED to the program's text (the seventh form; the later family's looks); each row that meets fmt, with fmt's text TOLD by the authors' own Lean function (tested against real Go, not proved from fmt's source: count such statements apart). THE CARD IS WHAT COUNTS. Prove the row's statement (the work); the ties are given (YtahifnjompmcbabDoorTie.lean); close each card by the builder's one call (the guide's Derived/Test/ToyasCard.lean, 'card_holds'). Laid BY PROGRAM, IN A SANDBOX (cutbox-door.mjs). By AI agents, Wed Nov 11 2026. No macro, syntax, notation, axiom, sorry.
-/
import Derived.Test.YtahifnjompmcbabDoorRows
import GoSem.ClaimSeven
namespace Go.Proofs.YtahifnjompmcbabDoor
namespace Rows

/-- THE TIED CARD OF 'respelllaw01.UtfPieces'. -/
def utfPiecesCard : Claim7 := { stood := { row := utfPiecesRow, standIns := [], harness := (true, "baf8ad506607b2cda99e58fb63ca8bed70e7a0b2b10d1670af55a2c6c7ba6ff8"), looks := false }, kinds := [], alts := [], laidByText := true, laidKinds := [.data], laidTests := true, laidLooks := .later }
def UtfPiecesCardSaid : Prop := Claim7.holds Tryd.pinned (.plain (OpenSpec.ofChange utfPiecesSpec)) utfPiecesCard

/-- THE TIED CARD OF 'respelllaw01.UtfOpens'. -/
def utfOpensCard : Claim7 := { stood := { row := utfOpensRow, standIns := [], harness := (true, "baf8ad506607b2cda99e58fb63ca8bed70e7a0b2b10d1670af55a2c6c7ba6ff8"), looks := false }, kinds := [], alts := [], laidByText := true, laidKinds := [.data], laidTests := true, laidLooks := .later }
def UtfOpensCardSaid : Prop := Claim7.holds Tryd.pinned (.plain (OpenSpec.ofChange utfOpensSpec)) utfOpensCard

/-- THE TIED CARD OF 'respelllaw01.UtfNumbers'. -/
def utfNumbersCard : Claim7 := { stood := { row := utfNumbersRow, standIns := [], harness := (true, "baf8ad506607b2cda99e58fb63ca8bed70e7a0b2b10d1670af55a2c6c7ba6ff8"), looks := false }, kinds := [], alts := [], laidByText := true, laidKinds := [.data], laidTests := true, laidLooks := .later }
def UtfNumbersCardSaid : Prop := Claim7.holds Tryd.pinned (.plain (OpenSpec.ofChange utfNumbersSpec)) utfNumbersCard

/-- THE SECOND FORM's CARD OF 'respelllaw01.UtfPieces'. -/
def utfPiecesUptoCard : Claim7 := { stood := { row := utfPiecesUptoRow, standIns := [], harness := (true, "baf8ad506607b2cda99e58fb63ca8bed70e7a0b2b10d1670af55a2c6c7ba6ff8"), looks := false }, kinds := [], alts := [], laidByText := true, laidKinds := [.data], laidTests := true, laidLooks := .later }
def UtfPiecesUptoCardSaid : Prop := Claim7.holds Tryd.pinned (.plain (OpenSpec.upto utfPiecesSpec)) utfPiecesUptoCard

/-- THE SECOND FORM's CARD OF 'respelllaw01.UtfOpens'. -/
def utfOpensUptoCard : Claim7 := { stood := { row := utfOpensUptoRow, standIns := [], harness := (true, "baf8ad506607b2cda99e58fb63ca8bed70e7a0b2b10d1670af55a2c6c7ba6ff8"), looks := false }, kinds := [], alts := [], laidByText := true, laidKinds := [.data], laidTests := true, laidLooks := .later }
def UtfOpensUptoCardSaid : Prop := Claim7.holds Tryd.pinned (.plain (OpenSpec.upto utfOpensSpec)) utfOpensUptoCard

/-- THE SECOND FORM's CARD OF 'respelllaw01.UtfNumbers'. -/
def utfNumbersUptoCard : Claim7 := { stood := { row := utfNumbersUptoRow, standIns := [], harness := (true, "baf8ad506607b2cda99e58fb63ca8bed70e7a0b2b10d1670af55a2c6c7ba6ff8"), looks := false }, kinds := [], alts := [], laidByText := true, laidKinds := [.data], laidTests := true, laidLooks := .later }
def UtfNumbersUptoCardSaid : Prop := Claim7.holds Tryd.pinned (.plain (OpenSpec.upto utfNumbersSpec)) utfNumbersUptoCard
end Rows
end Go.Proofs.YtahifnjompmcbabDoor
