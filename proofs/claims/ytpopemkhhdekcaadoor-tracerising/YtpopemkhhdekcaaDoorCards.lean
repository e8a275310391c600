/-
  DERIVED. GIVEN WITH THE SEED: THE CARDS: each row of YtpopemkhhdekcaaDoorRows.lean that lists a variable, with what it lists TIED to the program's text (the seventh form; the later family's looks); each row that meets fmt, with fmt's text TOLD by the authors' own Lean function (tested against real Go, not proved from fmt's source: count such statements apart). THE CARD IS WHAT COUNTS. Prove the row's statement (the work); the ties are given (YtpopemkhhdekcaaDoorTie.lean); close each card by the builder's one call (the guide's Derived/Test/ToyasCard.lean, 'card_holds'). Laid BY PROGRAM, IN A SANDBOX (cutbox-door.mjs). By AI agents, Wed Nov 11 2026. No macro, syntax, notation, axiom, sorry.
-/
import Derived.Test.YtpopemkhhdekcaaDoorRows
import GoSem.ClaimSeven
namespace Go.Proofs.YtpopemkhhdekcaaDoor
namespace Rows

/-- THE TIED CARD OF 'respelllaw10.PassSees'. -/
def passSeesCard : Claim7 := { stood := { row := passSeesRow, standIns := [], harness := (true, "fa3e610f809918adfa381973072241c047043c36a4ba424a5b14dfeb1ce0f743"), looks := false }, kinds := [], alts := [], laidByText := true, laidKinds := [.data], laidTests := true, laidLooks := .later }
def PassSeesCardSaid : Prop := Claim7.holds Tryd.pinned (.plain (OpenSpec.ofChange passSeesSpec)) passSeesCard

/-- THE TIED CARD OF 'respelllaw13.TraceRising'. -/
def traceRisingCard : Claim7 := { stood := { row := traceRisingRow, standIns := [], harness := (true, "fa3e610f809918adfa381973072241c047043c36a4ba424a5b14dfeb1ce0f743"), looks := false }, kinds := [], alts := [], laidByText := true, laidKinds := [.data], laidTests := true, laidLooks := .later }
def TraceRisingCardSaid : Prop := Claim7.holds Tryd.pinned (.plain (OpenSpec.ofChange traceRisingSpec)) traceRisingCard

/-- THE TIED CARD OF 'respelllaw13.TraceThree'. -/
def traceThreeCard : Claim7 := { stood := { row := traceThreeRow, standIns := [], harness := (true, "fa3e610f809918adfa381973072241c047043c36a4ba424a5b14dfeb1ce0f743"), looks := false }, kinds := [], alts := [], laidByText := true, laidKinds := [.data], laidTests := true, laidLooks := .later }
def TraceThreeCardSaid : Prop := Claim7.holds Tryd.pinned (.plain (OpenSpec.ofChange traceThreeSpec)) traceThreeCard

/-- THE SECOND FORM's CARD OF 'respelllaw10.PassSees'. -/
def passSeesUptoCard : Claim7 := { stood := { row := passSeesUptoRow, standIns := [], harness := (true, "fa3e610f809918adfa381973072241c047043c36a4ba424a5b14dfeb1ce0f743"), looks := false }, kinds := [], alts := [], laidByText := true, laidKinds := [.data], laidTests := true, laidLooks := .later }
def PassSeesUptoCardSaid : Prop := Claim7.holds Tryd.pinned (.plain (OpenSpec.upto passSeesSpec)) passSeesUptoCard

/-- THE SECOND FORM's CARD OF 'respelllaw13.TraceRising'. -/
def traceRisingUptoCard : Claim7 := { stood := { row := traceRisingUptoRow, standIns := [], harness := (true, "fa3e610f809918adfa381973072241c047043c36a4ba424a5b14dfeb1ce0f743"), looks := false }, kinds := [], alts := [], laidByText := true, laidKinds := [.data], laidTests := true, laidLooks := .later }
def TraceRisingUptoCardSaid : Prop := Claim7.holds Tryd.pinned (.plain (OpenSpec.upto traceRisingSpec)) traceRisingUptoCard

/-- THE SECOND FORM's CARD OF 'respelllaw13.TraceThree'. -/
def traceThreeUptoCard : Claim7 := { stood := { row := traceThreeUptoRow, standIns := [], harness := (true, "fa3e610f809918adfa381973072241c047043c36a4ba424a5b14dfeb1ce0f743"), looks := false }, kinds := [], alts := [], laidByText := true, laidKinds := [.data], laidTests := true, laidLooks := .later }
def TraceThreeUptoCardSaid : Prop := Claim7.holds Tryd.pinned (.plain (OpenSpec.upto traceThreeSpec)) traceThreeUptoCard
end Rows
end Go.Proofs.YtpopemkhhdekcaaDoor
