/-
  DERIVED. GIVEN WITH THE SEED: THE CARDS: each row of YtmgkolelcflcbaaDoorRows.lean that lists a variable, with what it lists TIED to the program's text (the seventh form; the later family's looks); each row that meets fmt, with fmt's text TOLD by the authors' own Lean function (tested against real Go, not proved from fmt's source: count such statements apart). THE CARD IS WHAT COUNTS. Prove the row's statement (the work); the ties are given (YtmgkolelcflcbaaDoorTie.lean); close each card by the builder's one call (the guide's Derived/Test/ToyasCard.lean, 'card_holds'). Laid BY PROGRAM, IN A SANDBOX (cutbox-door.mjs). By AI agents, Wed Nov 11 2026. No macro, syntax, notation, axiom, sorry.
-/
import Derived.Test.YtmgkolelcflcbaaDoorRows
import GoSem.ClaimSeven
namespace Go.Proofs.YtmgkolelcflcbaaDoor
namespace Rows

/-- THE TIED CARD OF 'respelllaw02.SetOf'. -/
def setOfCard : Claim7 := { stood := { row := setOfRow, standIns := [], harness := (true, "2347e9c98bc728ac0c1ae9af860044ac9011274fdf3ceac04936b82e0e60d95a"), looks := false }, kinds := [], alts := [], laidByText := true, laidKinds := [.data], laidTests := true, laidLooks := .later }
def SetOfCardSaid : Prop := Claim7.holds Tryd.pinned (.plain (OpenSpec.ofChange setOfSpec)) setOfCard

/-- THE TIED CARD OF 'respelllaw02.SetAsks'. -/
def setAsksCard : Claim7 := { stood := { row := setAsksRow, standIns := [], harness := (true, "2347e9c98bc728ac0c1ae9af860044ac9011274fdf3ceac04936b82e0e60d95a"), looks := false }, kinds := [], alts := [], laidByText := true, laidKinds := [.data], laidTests := true, laidLooks := .later }
def SetAsksCardSaid : Prop := Claim7.holds Tryd.pinned (.plain (OpenSpec.ofChange setAsksSpec)) setAsksCard

/-- THE TIED CARD OF 'respelllaw02.SetJoins'. -/
def setJoinsCard : Claim7 := { stood := { row := setJoinsRow, standIns := [], harness := (true, "2347e9c98bc728ac0c1ae9af860044ac9011274fdf3ceac04936b82e0e60d95a"), looks := false }, kinds := [], alts := [], laidByText := true, laidKinds := [.data], laidTests := true, laidLooks := .later }
def SetJoinsCardSaid : Prop := Claim7.holds Tryd.pinned (.plain (OpenSpec.ofChange setJoinsSpec)) setJoinsCard

/-- THE TIED CARD OF 'respelllaw02.SetLaws'. -/
def setLawsCard : Claim7 := { stood := { row := setLawsRow, standIns := [], harness := (true, "2347e9c98bc728ac0c1ae9af860044ac9011274fdf3ceac04936b82e0e60d95a"), looks := false }, kinds := [], alts := [], laidByText := true, laidKinds := [.data], laidTests := true, laidLooks := .later }
def SetLawsCardSaid : Prop := Claim7.holds Tryd.pinned (.plain (OpenSpec.ofChange setLawsSpec)) setLawsCard

/-- THE TIED CARD OF 'respelllaw02.SetNumbers'. -/
def setNumbersCard : Claim7 := { stood := { row := setNumbersRow, standIns := [], harness := (true, "2347e9c98bc728ac0c1ae9af860044ac9011274fdf3ceac04936b82e0e60d95a"), looks := false }, kinds := [], alts := [], laidByText := true, laidKinds := [.data], laidTests := true, laidLooks := .later }
def SetNumbersCardSaid : Prop := Claim7.holds Tryd.pinned (.plain (OpenSpec.ofChange setNumbersSpec)) setNumbersCard

/-- THE SECOND FORM's CARD OF 'respelllaw02.SetOf'. -/
def setOfUptoCard : Claim7 := { stood := { row := setOfUptoRow, standIns := [], harness := (true, "2347e9c98bc728ac0c1ae9af860044ac9011274fdf3ceac04936b82e0e60d95a"), looks := false }, kinds := [], alts := [], laidByText := true, laidKinds := [.data], laidTests := true, laidLooks := .later }
def SetOfUptoCardSaid : Prop := Claim7.holds Tryd.pinned (.plain (OpenSpec.upto setOfSpec)) setOfUptoCard

/-- THE SECOND FORM's CARD OF 'respelllaw02.SetAsks'. -/
def setAsksUptoCard : Claim7 := { stood := { row := setAsksUptoRow, standIns := [], harness := (true, "2347e9c98bc728ac0c1ae9af860044ac9011274fdf3ceac04936b82e0e60d95a"), looks := false }, kinds := [], alts := [], laidByText := true, laidKinds := [.data], laidTests := true, laidLooks := .later }
def SetAsksUptoCardSaid : Prop := Claim7.holds Tryd.pinned (.plain (OpenSpec.upto setAsksSpec)) setAsksUptoCard

/-- THE SECOND FORM's CARD OF 'respelllaw02.SetJoins'. -/
def setJoinsUptoCard : Claim7 := { stood := { row := setJoinsUptoRow, standIns := [], harness := (true, "2347e9c98bc728ac0c1ae9af860044ac9011274fdf3ceac04936b82e0e60d95a"), looks := false }, kinds := [], alts := [], laidByText := true, laidKinds := [.data], laidTests := true, laidLooks := .later }
def SetJoinsUptoCardSaid : Prop := Claim7.holds Tryd.pinned (.plain (OpenSpec.upto setJoinsSpec)) setJoinsUptoCard

/-- THE SECOND FORM's CARD OF 'respelllaw02.SetLaws'. -/
def setLawsUptoCard : Claim7 := { stood := { row := setLawsUptoRow, standIns := [], harness := (true, "2347e9c98bc728ac0c1ae9af860044ac9011274fdf3ceac04936b82e0e60d95a"), looks := false }, kinds := [], alts := [], laidByText := true, laidKinds := [.data], laidTests := true, laidLooks := .later }
def SetLawsUptoCardSaid : Prop := Claim7.holds Tryd.pinned (.plain (OpenSpec.upto setLawsSpec)) setLawsUptoCard

/-- THE SECOND FORM's CARD OF 'respelllaw02.SetNumbers'. -/
def setNumbersUptoCard : Claim7 := { stood := { row := setNumbersUptoRow, standIns := [], harness := (true, "2347e9c98bc728ac0c1ae9af860044ac9011274fdf3ceac04936b82e0e60d95a"), looks := false }, kinds := [], alts := [], laidByText := true, laidKinds := [.data], laidTests := true, laidLooks := .later }
def SetNumbersUptoCardSaid : Prop := Claim7.holds Tryd.pinned (.plain (OpenSpec.upto setNumbersSpec)) setNumbersUptoCard
end Rows
end Go.Proofs.YtmgkolelcflcbaaDoor
