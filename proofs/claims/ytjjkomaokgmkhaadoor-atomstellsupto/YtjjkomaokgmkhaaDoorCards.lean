/-
  DERIVED. GIVEN WITH THE SEED: THE CARDS: each row of YtjjkomaokgmkhaaDoorRows.lean that lists a variable, with what it lists TIED to the program's text (the seventh form; the later family's looks); each row that meets fmt, with fmt's text TOLD by the authors' own Lean function (tested against real Go, not proved from fmt's source: count such statements apart). THE CARD IS WHAT COUNTS. Prove the row's statement (the work); the ties are given (YtjjkomaokgmkhaaDoorTie.lean); close each card by the builder's one call (the guide's Derived/Test/ToyasCard.lean, 'card_holds'). Laid BY PROGRAM, IN A SANDBOX (cutbox-door.mjs). By AI agents, Wed Nov 11 2026. No macro, syntax, notation, axiom, sorry.
-/
import Derived.Test.YtjjkomaokgmkhaaDoorRows
import GoSem.ClaimSeven
namespace Go.Proofs.YtjjkomaokgmkhaaDoor
namespace Rows

/-- THE TIED CARD OF 'respelllaw11.AtomsTells'. -/
def atomsTellsCard : Claim7 := { stood := { row := atomsTellsRow, standIns := [], harness := (true, "16b6335369282c7f33ff47f99732b774d9f3b6b4cf972c5e22ff30cb1a43b873"), looks := false }, kinds := [], alts := [], laidByText := true, laidKinds := [.data], laidTests := true, laidLooks := .later }
def AtomsTellsCardSaid : Prop := Claim7.holds Tryd.pinned (.plain (OpenSpec.ofChange atomsTellsSpec)) atomsTellsCard

/-- THE TIED CARD OF 'respelllaw11.AtomsLaws'. -/
def atomsLawsCard : Claim7 := { stood := { row := atomsLawsRow, standIns := [], harness := (true, "16b6335369282c7f33ff47f99732b774d9f3b6b4cf972c5e22ff30cb1a43b873"), looks := false }, kinds := [], alts := [], laidByText := true, laidKinds := [.data], laidTests := true, laidLooks := .later }
def AtomsLawsCardSaid : Prop := Claim7.holds Tryd.pinned (.plain (OpenSpec.ofChange atomsLawsSpec)) atomsLawsCard

/-- THE TIED CARD OF 'respelllaw11.AtomsNumbers'. -/
def atomsNumbersCard : Claim7 := { stood := { row := atomsNumbersRow, standIns := [], harness := (true, "16b6335369282c7f33ff47f99732b774d9f3b6b4cf972c5e22ff30cb1a43b873"), looks := false }, kinds := [], alts := [], laidByText := true, laidKinds := [.data], laidTests := true, laidLooks := .later }
def AtomsNumbersCardSaid : Prop := Claim7.holds Tryd.pinned (.plain (OpenSpec.ofChange atomsNumbersSpec)) atomsNumbersCard

/-- THE SECOND FORM's CARD OF 'respelllaw11.AtomsTells'. -/
def atomsTellsUptoCard : Claim7 := { stood := { row := atomsTellsUptoRow, standIns := [], harness := (true, "16b6335369282c7f33ff47f99732b774d9f3b6b4cf972c5e22ff30cb1a43b873"), looks := false }, kinds := [], alts := [], laidByText := true, laidKinds := [.data], laidTests := true, laidLooks := .later }
def AtomsTellsUptoCardSaid : Prop := Claim7.holds Tryd.pinned (.plain (OpenSpec.upto atomsTellsSpec)) atomsTellsUptoCard

/-- THE SECOND FORM's CARD OF 'respelllaw11.AtomsLaws'. -/
def atomsLawsUptoCard : Claim7 := { stood := { row := atomsLawsUptoRow, standIns := [], harness := (true, "16b6335369282c7f33ff47f99732b774d9f3b6b4cf972c5e22ff30cb1a43b873"), looks := false }, kinds := [], alts := [], laidByText := true, laidKinds := [.data], laidTests := true, laidLooks := .later }
def AtomsLawsUptoCardSaid : Prop := Claim7.holds Tryd.pinned (.plain (OpenSpec.upto atomsLawsSpec)) atomsLawsUptoCard

/-- THE SECOND FORM's CARD OF 'respelllaw11.AtomsNumbers'. -/
def atomsNumbersUptoCard : Claim7 := { stood := { row := atomsNumbersUptoRow, standIns := [], harness := (true, "16b6335369282c7f33ff47f99732b774d9f3b6b4cf972c5e22ff30cb1a43b873"), looks := false }, kinds := [], alts := [], laidByText := true, laidKinds := [.data], laidTests := true, laidLooks := .later }
def AtomsNumbersUptoCardSaid : Prop := Claim7.holds Tryd.pinned (.plain (OpenSpec.upto atomsNumbersSpec)) atomsNumbersUptoCard
end Rows
end Go.Proofs.YtjjkomaokgmkhaaDoor
