/-
  DERIVED. GIVEN WITH THE SEED: THE CARDS: each row of YtcfcjljapamcoabGreatDoorRows.lean that lists a variable, with what it lists TIED to the program's text (the seventh form; the later family's looks); each row that meets fmt, with fmt's text TOLD by the authors' own Lean function (tested against real Go, not proved from fmt's source: count such statements apart). THE CARD IS WHAT COUNTS. Prove the row's statement (the work); the ties are given (YtcfcjljapamcoabGreatDoorTie.lean); close each card by the builder's one call (the guide's Derived/Test/ToyasCard.lean, 'card_holds'). Laid BY PROGRAM, IN A SANDBOX (cutbox-door.mjs). By AI agents, Wed Nov 11 2026. No macro, syntax, notation, axiom, sorry.
-/
import Derived.Test.YtcfcjljapamcoabGreatDoorRows
import GoSem.ClaimSeven
namespace Go.Proofs.YtcfcjljapamcoabGreatDoor
namespace Rows

/-- THE TIED CARD OF 'respelllaw20.RoundSure'. -/
def roundSureCard : Claim7 := { stood := { row := roundSureRow, standIns := [], harness := (true, "dfa79816c7be8173e3cda6d2fd7b47947ef4e3c41dde2e50b78a2ca21644dc45"), looks := false }, kinds := [], alts := [], laidByText := true, laidKinds := [.data], laidTests := true, laidLooks := .later }
def RoundSureCardSaid : Prop := Claim7.holds Tryz.pinned (.plain (OpenSpec.ofChange roundSureSpec)) roundSureCard

/-- THE TIED CARD OF 'respelllaw20.RoundNumbers'. -/
def roundNumbersCard : Claim7 := { stood := { row := roundNumbersRow, standIns := [], harness := (true, "dfa79816c7be8173e3cda6d2fd7b47947ef4e3c41dde2e50b78a2ca21644dc45"), looks := false }, kinds := [], alts := [], laidByText := true, laidKinds := [.data], laidTests := true, laidLooks := .later }
def RoundNumbersCardSaid : Prop := Claim7.holds Tryz.pinned (.plain (OpenSpec.ofChange roundNumbersSpec)) roundNumbersCard

/-- THE SECOND FORM's CARD OF 'respelllaw20.RoundSure'. -/
def roundSureUptoCard : Claim7 := { stood := { row := roundSureUptoRow, standIns := [], harness := (true, "dfa79816c7be8173e3cda6d2fd7b47947ef4e3c41dde2e50b78a2ca21644dc45"), looks := false }, kinds := [], alts := [], laidByText := true, laidKinds := [.data], laidTests := true, laidLooks := .later }
def RoundSureUptoCardSaid : Prop := Claim7.holds Tryz.pinned (.plain (OpenSpec.upto roundSureSpec)) roundSureUptoCard

/-- THE SECOND FORM's CARD OF 'respelllaw20.RoundNumbers'. -/
def roundNumbersUptoCard : Claim7 := { stood := { row := roundNumbersUptoRow, standIns := [], harness := (true, "dfa79816c7be8173e3cda6d2fd7b47947ef4e3c41dde2e50b78a2ca21644dc45"), looks := false }, kinds := [], alts := [], laidByText := true, laidKinds := [.data], laidTests := true, laidLooks := .later }
def RoundNumbersUptoCardSaid : Prop := Claim7.holds Tryz.pinned (.plain (OpenSpec.upto roundNumbersSpec)) roundNumbersUptoCard
end Rows
end Go.Proofs.YtcfcjljapamcoabGreatDoor
