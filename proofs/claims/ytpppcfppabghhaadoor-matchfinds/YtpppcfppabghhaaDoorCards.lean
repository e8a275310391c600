/-
  DERIVED. GIVEN WITH THE SEED: THE CARDS: each row of YtpppcfppabghhaaDoorRows.lean that lists a variable, with what it lists TIED to the program's text (the seventh form; the later family's looks); each row that meets fmt, with fmt's text TOLD by the authors' own Lean function (tested against real Go, not proved from fmt's source: count such statements apart). THE CARD IS WHAT COUNTS. Prove the row's statement (the work); the ties are given (YtpppcfppabghhaaDoorTie.lean); close each card by the builder's one call (the guide's Derived/Test/ToyasCard.lean, 'card_holds'). Laid BY PROGRAM, IN A SANDBOX (cutbox-door.mjs). By AI agents, Wed Nov 11 2026. No macro, syntax, notation, axiom, sorry.
-/
import Derived.Test.YtpppcfppabghhaaDoorRows
import GoSem.ClaimSeven
namespace Go.Proofs.YtpppcfppabghhaaDoor
namespace Rows

/-- THE TIED CARD OF 'respelllaw09.MatchFinds'. -/
def matchFindsCard : Claim7 := { stood := { row := matchFindsRow, standIns := [], harness := (true, "2c52dd3a70158efa35e63eb7705e94f739f76b4f72ab57fb8b860152c6f03555"), looks := false }, kinds := [], alts := [], laidByText := true, laidKinds := [.data], laidTests := true, laidLooks := .later }
def MatchFindsCardSaid : Prop := Claim7.holds Tryd.pinned (.plain (OpenSpec.ofChange matchFindsSpec)) matchFindsCard

/-- THE TIED CARD OF 'respelllaw09.MatchNear'. -/
def matchNearCard : Claim7 := { stood := { row := matchNearRow, standIns := [], harness := (true, "2c52dd3a70158efa35e63eb7705e94f739f76b4f72ab57fb8b860152c6f03555"), looks := false }, kinds := [], alts := [], laidByText := true, laidKinds := [.data], laidTests := true, laidLooks := .later }
def MatchNearCardSaid : Prop := Claim7.holds Tryd.pinned (.plain (OpenSpec.ofChange matchNearSpec)) matchNearCard

/-- THE TIED CARD OF 'respelllaw09.MatchBest'. -/
def matchBestCard : Claim7 := { stood := { row := matchBestRow, standIns := [], harness := (true, "2c52dd3a70158efa35e63eb7705e94f739f76b4f72ab57fb8b860152c6f03555"), looks := false }, kinds := [], alts := [], laidByText := true, laidKinds := [.data], laidTests := true, laidLooks := .later }
def MatchBestCardSaid : Prop := Claim7.holds Tryd.pinned (.plain (OpenSpec.ofChange matchBestSpec)) matchBestCard

/-- THE TIED CARD OF 'respelllaw09.MatchMore'. -/
def matchMoreCard : Claim7 := { stood := { row := matchMoreRow, standIns := [], harness := (true, "2c52dd3a70158efa35e63eb7705e94f739f76b4f72ab57fb8b860152c6f03555"), looks := false }, kinds := [], alts := [], laidByText := true, laidKinds := [.data], laidTests := true, laidLooks := .later }
def MatchMoreCardSaid : Prop := Claim7.holds Tryd.pinned (.plain (OpenSpec.ofChange matchMoreSpec)) matchMoreCard

/-- THE SECOND FORM's CARD OF 'respelllaw09.MatchFinds'. -/
def matchFindsUptoCard : Claim7 := { stood := { row := matchFindsUptoRow, standIns := [], harness := (true, "2c52dd3a70158efa35e63eb7705e94f739f76b4f72ab57fb8b860152c6f03555"), looks := false }, kinds := [], alts := [], laidByText := true, laidKinds := [.data], laidTests := true, laidLooks := .later }
def MatchFindsUptoCardSaid : Prop := Claim7.holds Tryd.pinned (.plain (OpenSpec.upto matchFindsSpec)) matchFindsUptoCard

/-- THE SECOND FORM's CARD OF 'respelllaw09.MatchNear'. -/
def matchNearUptoCard : Claim7 := { stood := { row := matchNearUptoRow, standIns := [], harness := (true, "2c52dd3a70158efa35e63eb7705e94f739f76b4f72ab57fb8b860152c6f03555"), looks := false }, kinds := [], alts := [], laidByText := true, laidKinds := [.data], laidTests := true, laidLooks := .later }
def MatchNearUptoCardSaid : Prop := Claim7.holds Tryd.pinned (.plain (OpenSpec.upto matchNearSpec)) matchNearUptoCard

/-- THE SECOND FORM's CARD OF 'respelllaw09.MatchBest'. -/
def matchBestUptoCard : Claim7 := { stood := { row := matchBestUptoRow, standIns := [], harness := (true, "2c52dd3a70158efa35e63eb7705e94f739f76b4f72ab57fb8b860152c6f03555"), looks := false }, kinds := [], alts := [], laidByText := true, laidKinds := [.data], laidTests := true, laidLooks := .later }
def MatchBestUptoCardSaid : Prop := Claim7.holds Tryd.pinned (.plain (OpenSpec.upto matchBestSpec)) matchBestUptoCard

/-- THE SECOND FORM's CARD OF 'respelllaw09.MatchMore'. -/
def matchMoreUptoCard : Claim7 := { stood := { row := matchMoreUptoRow, standIns := [], harness := (true, "2c52dd3a70158efa35e63eb7705e94f739f76b4f72ab57fb8b860152c6f03555"), looks := false }, kinds := [], alts := [], laidByText := true, laidKinds := [.data], laidTests := true, laidLooks := .later }
def MatchMoreUptoCardSaid : Prop := Claim7.holds Tryd.pinned (.plain (OpenSpec.upto matchMoreSpec)) matchMoreUptoCard
end Rows
end Go.Proofs.YtpppcfppabghhaaDoor
