/-
  DERIVED. GIVEN WITH THE SEED: THE CARDS: each row of YtbacejefgpaabaaDoorRows.lean that lists a variable, with what it lists TIED to the program's text (the seventh form; the later family's looks); each row that meets fmt, with fmt's text TOLD by the authors' own Lean function (tested against real Go, not proved from fmt's source: count such statements apart). THE CARD IS WHAT COUNTS. Prove the row's statement (the work); the ties are given (YtbacejefgpaabaaDoorTie.lean); close each card by the builder's one call (the guide's Derived/Test/ToyasCard.lean, 'card_holds'). Laid BY PROGRAM, IN A SANDBOX (cutbox-door.mjs). By AI agents, Wed Nov 11 2026. No macro, syntax, notation, axiom, sorry.
-/
import Derived.Test.YtbacejefgpaabaaDoorRows
import GoSem.ClaimSeven
namespace Go.Proofs.YtbacejefgpaabaaDoor
namespace Rows

/-- THE TIED CARD OF 'respelllaw06.NamesSet'. -/
def namesSetCard : Claim7 := { stood := { row := namesSetRow, standIns := [], harness := (true, "3f323981de5c2fc745f0c6c99e4ea264a71b50ef86db60a05411fb214f0966ca"), looks := false }, kinds := [], alts := [], laidByText := true, laidKinds := [.data], laidTests := true, laidLooks := .later }
def NamesSetCardSaid : Prop := Claim7.holds Tryd.pinned (.plain (OpenSpec.ofChange namesSetSpec)) namesSetCard

/-- THE TIED CARD OF 'respelllaw06.NamesShort'. -/
def namesShortCard : Claim7 := { stood := { row := namesShortRow, standIns := [], harness := (true, "3f323981de5c2fc745f0c6c99e4ea264a71b50ef86db60a05411fb214f0966ca"), looks := false }, kinds := [], alts := [], laidByText := true, laidKinds := [.data], laidTests := true, laidLooks := .later }
def NamesShortCardSaid : Prop := Claim7.holds Tryd.pinned (.plain (OpenSpec.ofChange namesShortSpec)) namesShortCard

/-- THE TIED CARD OF 'respelllaw06.NamesNumbers'. -/
def namesNumbersCard : Claim7 := { stood := { row := namesNumbersRow, standIns := [], harness := (true, "3f323981de5c2fc745f0c6c99e4ea264a71b50ef86db60a05411fb214f0966ca"), looks := false }, kinds := [], alts := [], laidByText := true, laidKinds := [.data], laidTests := true, laidLooks := .later }
def NamesNumbersCardSaid : Prop := Claim7.holds Tryd.pinned (.plain (OpenSpec.ofChange namesNumbersSpec)) namesNumbersCard

/-- THE SECOND FORM's CARD OF 'respelllaw06.NamesSet'. -/
def namesSetUptoCard : Claim7 := { stood := { row := namesSetUptoRow, standIns := [], harness := (true, "3f323981de5c2fc745f0c6c99e4ea264a71b50ef86db60a05411fb214f0966ca"), looks := false }, kinds := [], alts := [], laidByText := true, laidKinds := [.data], laidTests := true, laidLooks := .later }
def NamesSetUptoCardSaid : Prop := Claim7.holds Tryd.pinned (.plain (OpenSpec.upto namesSetSpec)) namesSetUptoCard

/-- THE SECOND FORM's CARD OF 'respelllaw06.NamesShort'. -/
def namesShortUptoCard : Claim7 := { stood := { row := namesShortUptoRow, standIns := [], harness := (true, "3f323981de5c2fc745f0c6c99e4ea264a71b50ef86db60a05411fb214f0966ca"), looks := false }, kinds := [], alts := [], laidByText := true, laidKinds := [.data], laidTests := true, laidLooks := .later }
def NamesShortUptoCardSaid : Prop := Claim7.holds Tryd.pinned (.plain (OpenSpec.upto namesShortSpec)) namesShortUptoCard

/-- THE SECOND FORM's CARD OF 'respelllaw06.NamesNumbers'. -/
def namesNumbersUptoCard : Claim7 := { stood := { row := namesNumbersUptoRow, standIns := [], harness := (true, "3f323981de5c2fc745f0c6c99e4ea264a71b50ef86db60a05411fb214f0966ca"), looks := false }, kinds := [], alts := [], laidByText := true, laidKinds := [.data], laidTests := true, laidLooks := .later }
def NamesNumbersUptoCardSaid : Prop := Claim7.holds Tryd.pinned (.plain (OpenSpec.upto namesNumbersSpec)) namesNumbersUptoCard
end Rows
end Go.Proofs.YtbacejefgpaabaaDoor
