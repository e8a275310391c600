/-
  DERIVED. GIVEN WITH THE SEED: THE CARDS: each row of YtcfjdijmobgbpaaDoorRows.lean that lists a variable, with what it lists TIED to the program's text (the seventh form; the later family's looks); each row that meets fmt, with fmt's text TOLD by the authors' own Lean function (tested against real Go, not proved from fmt's source: count such statements apart). THE CARD IS WHAT COUNTS. Prove the row's statement (the work); the ties are given (YtcfjdijmobgbpaaDoorTie.lean); close each card by the builder's one call (the guide's Derived/Test/ToyasCard.lean, 'card_holds'). Laid BY PROGRAM, IN A SANDBOX (cutbox-door.mjs). By AI agents, Wed Nov 11 2026. No macro, syntax, notation, axiom, sorry.
-/
import Derived.Test.YtcfjdijmobgbpaaDoorRows
import GoSem.ClaimSeven
namespace Go.Proofs.YtcfjdijmobgbpaaDoor
namespace Rows

/-- THE TIED CARD OF 'respelllaw07.RuleChecks'. -/
def ruleChecksCard : Claim7 := { stood := { row := ruleChecksRow, standIns := [], harness := (true, "bc8f71b502b361723988b63d083bd202113fb9bbd0b8a624b2691ea00bfd0c43"), looks := false }, kinds := [], alts := [], laidByText := true, laidKinds := [.data], laidTests := true, laidLooks := .later }
def RuleChecksCardSaid : Prop := Claim7.holds Tryd.pinned (.plain (OpenSpec.ofChange ruleChecksSpec)) ruleChecksCard

/-- THE TIED CARD OF 'respelllaw07.RuleLays'. -/
def ruleLaysCard : Claim7 := { stood := { row := ruleLaysRow, standIns := [], harness := (true, "bc8f71b502b361723988b63d083bd202113fb9bbd0b8a624b2691ea00bfd0c43"), looks := false }, kinds := [], alts := [], laidByText := true, laidKinds := [.data], laidTests := true, laidLooks := .later }
def RuleLaysCardSaid : Prop := Claim7.holds Tryd.pinned (.plain (OpenSpec.ofChange ruleLaysSpec)) ruleLaysCard

/-- THE TIED CARD OF 'respelllaw07.RuleUnits'. -/
def ruleUnitsCard : Claim7 := { stood := { row := ruleUnitsRow, standIns := [], harness := (true, "bc8f71b502b361723988b63d083bd202113fb9bbd0b8a624b2691ea00bfd0c43"), looks := false }, kinds := [], alts := [], laidByText := true, laidKinds := [.data], laidTests := true, laidLooks := .later }
def RuleUnitsCardSaid : Prop := Claim7.holds Tryd.pinned (.plain (OpenSpec.ofChange ruleUnitsSpec)) ruleUnitsCard

/-- THE TIED CARD OF 'respelllaw07.RulePairs'. -/
def rulePairsCard : Claim7 := { stood := { row := rulePairsRow, standIns := [], harness := (true, "bc8f71b502b361723988b63d083bd202113fb9bbd0b8a624b2691ea00bfd0c43"), looks := false }, kinds := [], alts := [], laidByText := true, laidKinds := [.data], laidTests := true, laidLooks := .later }
def RulePairsCardSaid : Prop := Claim7.holds Tryd.pinned (.plain (OpenSpec.ofChange rulePairsSpec)) rulePairsCard

/-- THE TIED CARD OF 'respelllaw07.RuleSame'. -/
def ruleSameCard : Claim7 := { stood := { row := ruleSameRow, standIns := [], harness := (true, "bc8f71b502b361723988b63d083bd202113fb9bbd0b8a624b2691ea00bfd0c43"), looks := false }, kinds := [], alts := [], laidByText := true, laidKinds := [.data], laidTests := true, laidLooks := .later }
def RuleSameCardSaid : Prop := Claim7.holds Tryd.pinned (.plain (OpenSpec.ofChange ruleSameSpec)) ruleSameCard

/-- THE TIED CARD OF 'respelllaw07.RuleNames'. -/
def ruleNamesCard : Claim7 := { stood := { row := ruleNamesRow, standIns := [], harness := (true, "bc8f71b502b361723988b63d083bd202113fb9bbd0b8a624b2691ea00bfd0c43"), looks := false }, kinds := [], alts := [], laidByText := true, laidKinds := [.data], laidTests := true, laidLooks := .later }
def RuleNamesCardSaid : Prop := Claim7.holds Tryd.pinned (.plain (OpenSpec.ofChange ruleNamesSpec)) ruleNamesCard

/-- THE SECOND FORM's CARD OF 'respelllaw07.RuleChecks'. -/
def ruleChecksUptoCard : Claim7 := { stood := { row := ruleChecksUptoRow, standIns := [], harness := (true, "bc8f71b502b361723988b63d083bd202113fb9bbd0b8a624b2691ea00bfd0c43"), looks := false }, kinds := [], alts := [], laidByText := true, laidKinds := [.data], laidTests := true, laidLooks := .later }
def RuleChecksUptoCardSaid : Prop := Claim7.holds Tryd.pinned (.plain (OpenSpec.upto ruleChecksSpec)) ruleChecksUptoCard

/-- THE SECOND FORM's CARD OF 'respelllaw07.RuleLays'. -/
def ruleLaysUptoCard : Claim7 := { stood := { row := ruleLaysUptoRow, standIns := [], harness := (true, "bc8f71b502b361723988b63d083bd202113fb9bbd0b8a624b2691ea00bfd0c43"), looks := false }, kinds := [], alts := [], laidByText := true, laidKinds := [.data], laidTests := true, laidLooks := .later }
def RuleLaysUptoCardSaid : Prop := Claim7.holds Tryd.pinned (.plain (OpenSpec.upto ruleLaysSpec)) ruleLaysUptoCard

/-- THE SECOND FORM's CARD OF 'respelllaw07.RuleUnits'. -/
def ruleUnitsUptoCard : Claim7 := { stood := { row := ruleUnitsUptoRow, standIns := [], harness := (true, "bc8f71b502b361723988b63d083bd202113fb9bbd0b8a624b2691ea00bfd0c43"), looks := false }, kinds := [], alts := [], laidByText := true, laidKinds := [.data], laidTests := true, laidLooks := .later }
def RuleUnitsUptoCardSaid : Prop := Claim7.holds Tryd.pinned (.plain (OpenSpec.upto ruleUnitsSpec)) ruleUnitsUptoCard

/-- THE SECOND FORM's CARD OF 'respelllaw07.RulePairs'. -/
def rulePairsUptoCard : Claim7 := { stood := { row := rulePairsUptoRow, standIns := [], harness := (true, "bc8f71b502b361723988b63d083bd202113fb9bbd0b8a624b2691ea00bfd0c43"), looks := false }, kinds := [], alts := [], laidByText := true, laidKinds := [.data], laidTests := true, laidLooks := .later }
def RulePairsUptoCardSaid : Prop := Claim7.holds Tryd.pinned (.plain (OpenSpec.upto rulePairsSpec)) rulePairsUptoCard

/-- THE SECOND FORM's CARD OF 'respelllaw07.RuleSame'. -/
def ruleSameUptoCard : Claim7 := { stood := { row := ruleSameUptoRow, standIns := [], harness := (true, "bc8f71b502b361723988b63d083bd202113fb9bbd0b8a624b2691ea00bfd0c43"), looks := false }, kinds := [], alts := [], laidByText := true, laidKinds := [.data], laidTests := true, laidLooks := .later }
def RuleSameUptoCardSaid : Prop := Claim7.holds Tryd.pinned (.plain (OpenSpec.upto ruleSameSpec)) ruleSameUptoCard

/-- THE SECOND FORM's CARD OF 'respelllaw07.RuleNames'. -/
def ruleNamesUptoCard : Claim7 := { stood := { row := ruleNamesUptoRow, standIns := [], harness := (true, "bc8f71b502b361723988b63d083bd202113fb9bbd0b8a624b2691ea00bfd0c43"), looks := false }, kinds := [], alts := [], laidByText := true, laidKinds := [.data], laidTests := true, laidLooks := .later }
def RuleNamesUptoCardSaid : Prop := Claim7.holds Tryd.pinned (.plain (OpenSpec.upto ruleNamesSpec)) ruleNamesUptoCard
end Rows
end Go.Proofs.YtcfjdijmobgbpaaDoor
