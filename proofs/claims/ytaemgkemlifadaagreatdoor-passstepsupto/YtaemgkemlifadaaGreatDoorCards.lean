/-
  DERIVED. GIVEN WITH THE SEED: THE CARDS: each row of YtaemgkemlifadaaGreatDoorRows.lean that lists a variable, with what it lists TIED to the program's text (the seventh form; the later family's looks); each row that meets fmt, with fmt's text TOLD by the authors' own Lean function (tested against real Go, not proved from fmt's source: count such statements apart). THE CARD IS WHAT COUNTS. Prove the row's statement (the work); the ties are given (YtaemgkemlifadaaGreatDoorTie.lean); close each card by the builder's one call (the guide's Derived/Test/ToyasCard.lean, 'card_holds'). Laid BY PROGRAM, IN A SANDBOX (cutbox-door.mjs). By AI agents, Wed Nov 11 2026. No macro, syntax, notation, axiom, sorry.
-/
import Derived.Test.YtaemgkemlifadaaGreatDoorRows
import GoSem.ClaimSeven
namespace Go.Proofs.YtaemgkemlifadaaGreatDoor
namespace Rows

/-- THE TIED CARD OF 'respelllaw10.PassRuns'. -/
def passRunsCard : Claim7 := { stood := { row := passRunsRow, standIns := [], harness := (true, "c104ae5e9dc22b1a91565f4f4139e43372a2443dfa9ad410df76904484f82561"), looks := false }, kinds := [], alts := [], laidByText := true, laidKinds := [.data], laidTests := true, laidLooks := .later }
def PassRunsCardSaid : Prop := Claim7.holds Tryz.pinned (.plain (OpenSpec.ofChange passRunsSpec)) passRunsCard

/-- THE TIED CARD OF 'respelllaw10.PassSteps'. -/
def passStepsCard : Claim7 := { stood := { row := passStepsRow, standIns := [], harness := (true, "c104ae5e9dc22b1a91565f4f4139e43372a2443dfa9ad410df76904484f82561"), looks := false }, kinds := [], alts := [], laidByText := true, laidKinds := [.data], laidTests := true, laidLooks := .later }
def PassStepsCardSaid : Prop := Claim7.holds Tryz.pinned (.plain (OpenSpec.ofChange passStepsSpec)) passStepsCard

/-- THE TIED CARD OF 'respelllaw10.PassFits'. -/
def passFitsCard : Claim7 := { stood := { row := passFitsRow, standIns := [], harness := (true, "c104ae5e9dc22b1a91565f4f4139e43372a2443dfa9ad410df76904484f82561"), looks := false }, kinds := [], alts := [], laidByText := true, laidKinds := [.data], laidTests := true, laidLooks := .later }
def PassFitsCardSaid : Prop := Claim7.holds Tryz.pinned (.plain (OpenSpec.ofChange passFitsSpec)) passFitsCard

/-- THE TIED CARD OF 'respelllaw10.PassStill'. -/
def passStillCard : Claim7 := { stood := { row := passStillRow, standIns := [], harness := (true, "c104ae5e9dc22b1a91565f4f4139e43372a2443dfa9ad410df76904484f82561"), looks := false }, kinds := [], alts := [], laidByText := true, laidKinds := [.data], laidTests := true, laidLooks := .later }
def PassStillCardSaid : Prop := Claim7.holds Tryz.pinned (.plain (OpenSpec.ofChange passStillSpec)) passStillCard

/-- THE SECOND FORM's CARD OF 'respelllaw10.PassRuns'. -/
def passRunsUptoCard : Claim7 := { stood := { row := passRunsUptoRow, standIns := [], harness := (true, "c104ae5e9dc22b1a91565f4f4139e43372a2443dfa9ad410df76904484f82561"), looks := false }, kinds := [], alts := [], laidByText := true, laidKinds := [.data], laidTests := true, laidLooks := .later }
def PassRunsUptoCardSaid : Prop := Claim7.holds Tryz.pinned (.plain (OpenSpec.upto passRunsSpec)) passRunsUptoCard

/-- THE SECOND FORM's CARD OF 'respelllaw10.PassSteps'. -/
def passStepsUptoCard : Claim7 := { stood := { row := passStepsUptoRow, standIns := [], harness := (true, "c104ae5e9dc22b1a91565f4f4139e43372a2443dfa9ad410df76904484f82561"), looks := false }, kinds := [], alts := [], laidByText := true, laidKinds := [.data], laidTests := true, laidLooks := .later }
def PassStepsUptoCardSaid : Prop := Claim7.holds Tryz.pinned (.plain (OpenSpec.upto passStepsSpec)) passStepsUptoCard

/-- THE SECOND FORM's CARD OF 'respelllaw10.PassFits'. -/
def passFitsUptoCard : Claim7 := { stood := { row := passFitsUptoRow, standIns := [], harness := (true, "c104ae5e9dc22b1a91565f4f4139e43372a2443dfa9ad410df76904484f82561"), looks := false }, kinds := [], alts := [], laidByText := true, laidKinds := [.data], laidTests := true, laidLooks := .later }
def PassFitsUptoCardSaid : Prop := Claim7.holds Tryz.pinned (.plain (OpenSpec.upto passFitsSpec)) passFitsUptoCard

/-- THE SECOND FORM's CARD OF 'respelllaw10.PassStill'. -/
def passStillUptoCard : Claim7 := { stood := { row := passStillUptoRow, standIns := [], harness := (true, "c104ae5e9dc22b1a91565f4f4139e43372a2443dfa9ad410df76904484f82561"), looks := false }, kinds := [], alts := [], laidByText := true, laidKinds := [.data], laidTests := true, laidLooks := .later }
def PassStillUptoCardSaid : Prop := Claim7.holds Tryz.pinned (.plain (OpenSpec.upto passStillSpec)) passStillUptoCard
end Rows
end Go.Proofs.YtaemgkemlifadaaGreatDoor
