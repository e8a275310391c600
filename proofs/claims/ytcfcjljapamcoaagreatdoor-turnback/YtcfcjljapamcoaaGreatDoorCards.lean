/-
  DERIVED. GIVEN WITH THE SEED: THE CARDS: each row of YtcfcjljapamcoaaGreatDoorRows.lean that lists a variable, with what it lists TIED to the program's text (the seventh form; the later family's looks); each row that meets fmt, with fmt's text TOLD by the authors' own Lean function (tested against real Go, not proved from fmt's source: count such statements apart). THE CARD IS WHAT COUNTS. Prove the row's statement (the work); the ties are given (YtcfcjljapamcoaaGreatDoorTie.lean); close each card by the builder's one call (the guide's Derived/Test/ToyasCard.lean, 'card_holds'). Laid BY PROGRAM, IN A SANDBOX (cutbox-door.mjs). By AI agents, Wed Nov 11 2026. No macro, syntax, notation, axiom, sorry.
-/
import Derived.Test.YtcfcjljapamcoaaGreatDoorRows
import GoSem.ClaimSeven
namespace Go.Proofs.YtcfcjljapamcoaaGreatDoor
namespace Rows

/-- THE TIED CARD OF 'respelllaw19.TurnTells'. -/
def turnTellsCard : Claim7 := { stood := { row := turnTellsRow, standIns := [], harness := (true, "cc3f414adeefb1e86582ffb7318f77cdc757701e58b77af31439d6b55011a5be"), looks := false }, kinds := [], alts := [], laidByText := true, laidKinds := [.data], laidTests := true, laidLooks := .later }
def TurnTellsCardSaid : Prop := Claim7.holds Tryz.pinned (.plain (OpenSpec.ofChange turnTellsSpec)) turnTellsCard

/-- THE TIED CARD OF 'respelllaw19.TurnOver'. -/
def turnOverCard : Claim7 := { stood := { row := turnOverRow, standIns := [], harness := (true, "cc3f414adeefb1e86582ffb7318f77cdc757701e58b77af31439d6b55011a5be"), looks := false }, kinds := [], alts := [], laidByText := true, laidKinds := [.data], laidTests := true, laidLooks := .later }
def TurnOverCardSaid : Prop := Claim7.holds Tryz.pinned (.plain (OpenSpec.ofChange turnOverSpec)) turnOverCard

/-- THE TIED CARD OF 'respelllaw19.TurnBack'. -/
def turnBackCard : Claim7 := { stood := { row := turnBackRow, standIns := [], harness := (true, "cc3f414adeefb1e86582ffb7318f77cdc757701e58b77af31439d6b55011a5be"), looks := false }, kinds := [], alts := [], laidByText := true, laidKinds := [.data], laidTests := true, laidLooks := .later }
def TurnBackCardSaid : Prop := Claim7.holds Tryz.pinned (.plain (OpenSpec.ofChange turnBackSpec)) turnBackCard

/-- THE TIED CARD OF 'respelllaw19.TurnTwice'. -/
def turnTwiceCard : Claim7 := { stood := { row := turnTwiceRow, standIns := [], harness := (true, "cc3f414adeefb1e86582ffb7318f77cdc757701e58b77af31439d6b55011a5be"), looks := false }, kinds := [], alts := [], laidByText := true, laidKinds := [.data], laidTests := true, laidLooks := .later }
def TurnTwiceCardSaid : Prop := Claim7.holds Tryz.pinned (.plain (OpenSpec.ofChange turnTwiceSpec)) turnTwiceCard

/-- THE TIED CARD OF 'respelllaw19.TurnNames'. -/
def turnNamesCard : Claim7 := { stood := { row := turnNamesRow, standIns := [], harness := (true, "cc3f414adeefb1e86582ffb7318f77cdc757701e58b77af31439d6b55011a5be"), looks := false }, kinds := [], alts := [], laidByText := true, laidKinds := [.data], laidTests := true, laidLooks := .later }
def TurnNamesCardSaid : Prop := Claim7.holds Tryz.pinned (.plain (OpenSpec.ofChange turnNamesSpec)) turnNamesCard

/-- THE TIED CARD OF 'respelllaw20.RoundTells'. -/
def roundTellsCard : Claim7 := { stood := { row := roundTellsRow, standIns := [], harness := (true, "cc3f414adeefb1e86582ffb7318f77cdc757701e58b77af31439d6b55011a5be"), looks := false }, kinds := [], alts := [], laidByText := true, laidKinds := [.data], laidTests := true, laidLooks := .later }
def RoundTellsCardSaid : Prop := Claim7.holds Tryz.pinned (.plain (OpenSpec.ofChange roundTellsSpec)) roundTellsCard

/-- THE SECOND FORM's CARD OF 'respelllaw19.TurnTells'. -/
def turnTellsUptoCard : Claim7 := { stood := { row := turnTellsUptoRow, standIns := [], harness := (true, "cc3f414adeefb1e86582ffb7318f77cdc757701e58b77af31439d6b55011a5be"), looks := false }, kinds := [], alts := [], laidByText := true, laidKinds := [.data], laidTests := true, laidLooks := .later }
def TurnTellsUptoCardSaid : Prop := Claim7.holds Tryz.pinned (.plain (OpenSpec.upto turnTellsSpec)) turnTellsUptoCard

/-- THE SECOND FORM's CARD OF 'respelllaw19.TurnOver'. -/
def turnOverUptoCard : Claim7 := { stood := { row := turnOverUptoRow, standIns := [], harness := (true, "cc3f414adeefb1e86582ffb7318f77cdc757701e58b77af31439d6b55011a5be"), looks := false }, kinds := [], alts := [], laidByText := true, laidKinds := [.data], laidTests := true, laidLooks := .later }
def TurnOverUptoCardSaid : Prop := Claim7.holds Tryz.pinned (.plain (OpenSpec.upto turnOverSpec)) turnOverUptoCard

/-- THE SECOND FORM's CARD OF 'respelllaw19.TurnBack'. -/
def turnBackUptoCard : Claim7 := { stood := { row := turnBackUptoRow, standIns := [], harness := (true, "cc3f414adeefb1e86582ffb7318f77cdc757701e58b77af31439d6b55011a5be"), looks := false }, kinds := [], alts := [], laidByText := true, laidKinds := [.data], laidTests := true, laidLooks := .later }
def TurnBackUptoCardSaid : Prop := Claim7.holds Tryz.pinned (.plain (OpenSpec.upto turnBackSpec)) turnBackUptoCard

/-- THE SECOND FORM's CARD OF 'respelllaw19.TurnTwice'. -/
def turnTwiceUptoCard : Claim7 := { stood := { row := turnTwiceUptoRow, standIns := [], harness := (true, "cc3f414adeefb1e86582ffb7318f77cdc757701e58b77af31439d6b55011a5be"), looks := false }, kinds := [], alts := [], laidByText := true, laidKinds := [.data], laidTests := true, laidLooks := .later }
def TurnTwiceUptoCardSaid : Prop := Claim7.holds Tryz.pinned (.plain (OpenSpec.upto turnTwiceSpec)) turnTwiceUptoCard

/-- THE SECOND FORM's CARD OF 'respelllaw19.TurnNames'. -/
def turnNamesUptoCard : Claim7 := { stood := { row := turnNamesUptoRow, standIns := [], harness := (true, "cc3f414adeefb1e86582ffb7318f77cdc757701e58b77af31439d6b55011a5be"), looks := false }, kinds := [], alts := [], laidByText := true, laidKinds := [.data], laidTests := true, laidLooks := .later }
def TurnNamesUptoCardSaid : Prop := Claim7.holds Tryz.pinned (.plain (OpenSpec.upto turnNamesSpec)) turnNamesUptoCard

/-- THE SECOND FORM's CARD OF 'respelllaw20.RoundTells'. -/
def roundTellsUptoCard : Claim7 := { stood := { row := roundTellsUptoRow, standIns := [], harness := (true, "cc3f414adeefb1e86582ffb7318f77cdc757701e58b77af31439d6b55011a5be"), looks := false }, kinds := [], alts := [], laidByText := true, laidKinds := [.data], laidTests := true, laidLooks := .later }
def RoundTellsUptoCardSaid : Prop := Claim7.holds Tryz.pinned (.plain (OpenSpec.upto roundTellsSpec)) roundTellsUptoCard
end Rows
end Go.Proofs.YtcfcjljapamcoaaGreatDoor
