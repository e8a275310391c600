/-
  DERIVED. GIVEN WITH THE SEED: THE CARDS: each row of YtkijbaofhodplaaDoorRows.lean that lists a variable, with what it lists TIED to the program's text (the seventh form; the later family's looks); each row that meets fmt, with fmt's text TOLD by the authors' own Lean function (tested against real Go, not proved from fmt's source: count such statements apart). THE CARD IS WHAT COUNTS. Prove the row's statement (the work); the ties are given (YtkijbaofhodplaaDoorTie.lean); close each card by the builder's one call (the guide's Derived/Test/ToyasCard.lean, 'card_holds'). Laid BY PROGRAM, IN A SANDBOX (cutbox-door.mjs). By AI agents, Wed Nov 11 2026. No macro, syntax, notation, axiom, sorry.
-/
import Derived.Test.YtkijbaofhodplaaDoorRows
import GoSem.ClaimSeven
namespace Go.Proofs.YtkijbaofhodplaaDoor
namespace Rows

/-- THE TIED CARD OF 'respelllaw08.WeighTells'. -/
def weighTellsCard : Claim7 := { stood := { row := weighTellsRow, standIns := [], harness := (true, "99a59b49b3a86ac3081bad16c217ed8642cc822aa7bca64f27e85729b3cc69bb"), looks := false }, kinds := [], alts := [], laidByText := true, laidKinds := [.data], laidTests := true, laidLooks := .later }
def WeighTellsCardSaid : Prop := Claim7.holds Tryd.pinned (.plain (OpenSpec.ofChange weighTellsSpec)) weighTellsCard

/-- THE TIED CARD OF 'respelllaw08.WeighEnds'. -/
def weighEndsCard : Claim7 := { stood := { row := weighEndsRow, standIns := [], harness := (true, "99a59b49b3a86ac3081bad16c217ed8642cc822aa7bca64f27e85729b3cc69bb"), looks := false }, kinds := [], alts := [], laidByText := true, laidKinds := [.data], laidTests := true, laidLooks := .later }
def WeighEndsCardSaid : Prop := Claim7.holds Tryd.pinned (.plain (OpenSpec.ofChange weighEndsSpec)) weighEndsCard

/-- THE TIED CARD OF 'respelllaw08.WeighFair'. -/
def weighFairCard : Claim7 := { stood := { row := weighFairRow, standIns := [], harness := (true, "99a59b49b3a86ac3081bad16c217ed8642cc822aa7bca64f27e85729b3cc69bb"), looks := false }, kinds := [], alts := [], laidByText := true, laidKinds := [.data], laidTests := true, laidLooks := .later }
def WeighFairCardSaid : Prop := Claim7.holds Tryd.pinned (.plain (OpenSpec.ofChange weighFairSpec)) weighFairCard

/-- THE TIED CARD OF 'respelllaw08.WeighNames'. -/
def weighNamesCard : Claim7 := { stood := { row := weighNamesRow, standIns := [], harness := (true, "99a59b49b3a86ac3081bad16c217ed8642cc822aa7bca64f27e85729b3cc69bb"), looks := false }, kinds := [], alts := [], laidByText := true, laidKinds := [.data], laidTests := true, laidLooks := .later }
def WeighNamesCardSaid : Prop := Claim7.holds Tryd.pinned (.plain (OpenSpec.ofChange weighNamesSpec)) weighNamesCard

/-- THE SECOND FORM's CARD OF 'respelllaw08.WeighTells'. -/
def weighTellsUptoCard : Claim7 := { stood := { row := weighTellsUptoRow, standIns := [], harness := (true, "99a59b49b3a86ac3081bad16c217ed8642cc822aa7bca64f27e85729b3cc69bb"), looks := false }, kinds := [], alts := [], laidByText := true, laidKinds := [.data], laidTests := true, laidLooks := .later }
def WeighTellsUptoCardSaid : Prop := Claim7.holds Tryd.pinned (.plain (OpenSpec.upto weighTellsSpec)) weighTellsUptoCard

/-- THE SECOND FORM's CARD OF 'respelllaw08.WeighEnds'. -/
def weighEndsUptoCard : Claim7 := { stood := { row := weighEndsUptoRow, standIns := [], harness := (true, "99a59b49b3a86ac3081bad16c217ed8642cc822aa7bca64f27e85729b3cc69bb"), looks := false }, kinds := [], alts := [], laidByText := true, laidKinds := [.data], laidTests := true, laidLooks := .later }
def WeighEndsUptoCardSaid : Prop := Claim7.holds Tryd.pinned (.plain (OpenSpec.upto weighEndsSpec)) weighEndsUptoCard

/-- THE SECOND FORM's CARD OF 'respelllaw08.WeighFair'. -/
def weighFairUptoCard : Claim7 := { stood := { row := weighFairUptoRow, standIns := [], harness := (true, "99a59b49b3a86ac3081bad16c217ed8642cc822aa7bca64f27e85729b3cc69bb"), looks := false }, kinds := [], alts := [], laidByText := true, laidKinds := [.data], laidTests := true, laidLooks := .later }
def WeighFairUptoCardSaid : Prop := Claim7.holds Tryd.pinned (.plain (OpenSpec.upto weighFairSpec)) weighFairUptoCard

/-- THE SECOND FORM's CARD OF 'respelllaw08.WeighNames'. -/
def weighNamesUptoCard : Claim7 := { stood := { row := weighNamesUptoRow, standIns := [], harness := (true, "99a59b49b3a86ac3081bad16c217ed8642cc822aa7bca64f27e85729b3cc69bb"), looks := false }, kinds := [], alts := [], laidByText := true, laidKinds := [.data], laidTests := true, laidLooks := .later }
def WeighNamesUptoCardSaid : Prop := Claim7.holds Tryd.pinned (.plain (OpenSpec.upto weighNamesSpec)) weighNamesUptoCard
end Rows
end Go.Proofs.YtkijbaofhodplaaDoor
