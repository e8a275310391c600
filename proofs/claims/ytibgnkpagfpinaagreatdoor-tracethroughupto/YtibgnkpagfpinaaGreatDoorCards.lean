/-
  DERIVED. GIVEN WITH THE SEED: THE CARDS: each row of YtibgnkpagfpinaaGreatDoorRows.lean that lists a variable, with what it lists TIED to the program's text (the seventh form; the later family's looks); each row that meets fmt, with fmt's text TOLD by the authors' own Lean function (tested against real Go, not proved from fmt's source: count such statements apart). THE CARD IS WHAT COUNTS. Prove the row's statement (the work); the ties are given (YtibgnkpagfpinaaGreatDoorTie.lean); close each card by the builder's one call (the guide's Derived/Test/ToyasCard.lean, 'card_holds'). Laid BY PROGRAM, IN A SANDBOX (cutbox-door.mjs). By AI agents, Wed Nov 11 2026. No macro, syntax, notation, axiom, sorry.
-/
import Derived.Test.YtibgnkpagfpinaaGreatDoorRows
import GoSem.ClaimSeven
namespace Go.Proofs.YtibgnkpagfpinaaGreatDoor
namespace Rows

/-- THE TIED CARD OF 'respelllaw13.TraceBlocks'. -/
def traceBlocksCard : Claim7 := { stood := { row := traceBlocksRow, standIns := [], harness := (true, "fda102fca1d08f04e3caba22d9e259e723d8833ba10fb1b1bcdc1184cdf404cf"), looks := false }, kinds := [], alts := [], laidByText := true, laidKinds := [.data], laidTests := true, laidLooks := .later }
def TraceBlocksCardSaid : Prop := Claim7.holds Tryz.pinned (.plain (OpenSpec.ofChange traceBlocksSpec)) traceBlocksCard

/-- THE TIED CARD OF 'respelllaw13.TracePlaces'. -/
def tracePlacesCard : Claim7 := { stood := { row := tracePlacesRow, standIns := [], harness := (true, "fda102fca1d08f04e3caba22d9e259e723d8833ba10fb1b1bcdc1184cdf404cf"), looks := false }, kinds := [], alts := [], laidByText := true, laidKinds := [.data], laidTests := true, laidLooks := .later }
def TracePlacesCardSaid : Prop := Claim7.holds Tryz.pinned (.plain (OpenSpec.ofChange tracePlacesSpec)) tracePlacesCard

/-- THE TIED CARD OF 'respelllaw13.TraceThrough'. -/
def traceThroughCard : Claim7 := { stood := { row := traceThroughRow, standIns := [], harness := (true, "fda102fca1d08f04e3caba22d9e259e723d8833ba10fb1b1bcdc1184cdf404cf"), looks := false }, kinds := [], alts := [], laidByText := true, laidKinds := [.data], laidTests := true, laidLooks := .later }
def TraceThroughCardSaid : Prop := Claim7.holds Tryz.pinned (.plain (OpenSpec.ofChange traceThroughSpec)) traceThroughCard

/-- THE TIED CARD OF 'respelllaw13.TraceGaps'. -/
def traceGapsCard : Claim7 := { stood := { row := traceGapsRow, standIns := [], harness := (true, "fda102fca1d08f04e3caba22d9e259e723d8833ba10fb1b1bcdc1184cdf404cf"), looks := false }, kinds := [], alts := [], laidByText := true, laidKinds := [.data], laidTests := true, laidLooks := .later }
def TraceGapsCardSaid : Prop := Claim7.holds Tryz.pinned (.plain (OpenSpec.ofChange traceGapsSpec)) traceGapsCard

/-- THE SECOND FORM's CARD OF 'respelllaw13.TraceBlocks'. -/
def traceBlocksUptoCard : Claim7 := { stood := { row := traceBlocksUptoRow, standIns := [], harness := (true, "fda102fca1d08f04e3caba22d9e259e723d8833ba10fb1b1bcdc1184cdf404cf"), looks := false }, kinds := [], alts := [], laidByText := true, laidKinds := [.data], laidTests := true, laidLooks := .later }
def TraceBlocksUptoCardSaid : Prop := Claim7.holds Tryz.pinned (.plain (OpenSpec.upto traceBlocksSpec)) traceBlocksUptoCard

/-- THE SECOND FORM's CARD OF 'respelllaw13.TracePlaces'. -/
def tracePlacesUptoCard : Claim7 := { stood := { row := tracePlacesUptoRow, standIns := [], harness := (true, "fda102fca1d08f04e3caba22d9e259e723d8833ba10fb1b1bcdc1184cdf404cf"), looks := false }, kinds := [], alts := [], laidByText := true, laidKinds := [.data], laidTests := true, laidLooks := .later }
def TracePlacesUptoCardSaid : Prop := Claim7.holds Tryz.pinned (.plain (OpenSpec.upto tracePlacesSpec)) tracePlacesUptoCard

/-- THE SECOND FORM's CARD OF 'respelllaw13.TraceThrough'. -/
def traceThroughUptoCard : Claim7 := { stood := { row := traceThroughUptoRow, standIns := [], harness := (true, "fda102fca1d08f04e3caba22d9e259e723d8833ba10fb1b1bcdc1184cdf404cf"), looks := false }, kinds := [], alts := [], laidByText := true, laidKinds := [.data], laidTests := true, laidLooks := .later }
def TraceThroughUptoCardSaid : Prop := Claim7.holds Tryz.pinned (.plain (OpenSpec.upto traceThroughSpec)) traceThroughUptoCard

/-- THE SECOND FORM's CARD OF 'respelllaw13.TraceGaps'. -/
def traceGapsUptoCard : Claim7 := { stood := { row := traceGapsUptoRow, standIns := [], harness := (true, "fda102fca1d08f04e3caba22d9e259e723d8833ba10fb1b1bcdc1184cdf404cf"), looks := false }, kinds := [], alts := [], laidByText := true, laidKinds := [.data], laidTests := true, laidLooks := .later }
def TraceGapsUptoCardSaid : Prop := Claim7.holds Tryz.pinned (.plain (OpenSpec.upto traceGapsSpec)) traceGapsUptoCard
end Rows
end Go.Proofs.YtibgnkpagfpinaaGreatDoor
