/-
  NARROWER THAN 'FOR EVERY INPUT', by the rows' own cells (each row's printed sentence says how): RuleChecks: laid · RuleLays: laid · RuleUnits: laid · RulePairs: laid · RuleSame: laid · RuleNames: laid.
  DERIVED. THE GIVEN ROWS OF THIS SEAT. 6 by the template 'for every input the law returns true; each argument reads behind the call as it read before'; 0 by the template 'total and deterministic' (their statements: YtcfjdijmobgbpaaDoorTotals.lean).
  GIVEN WITH THE SEED: the statements are not yours to turn. If you find one false, say at which input.
  Laid BY PROGRAM, IN A SANDBOX (cutbox-rows.mjs): the forced cells as the released guide's own fill.sh prints them over the translation 8ff1008b9a4bfc24… (all of the seat's roots in one cut). By AI agents, Wed Nov 11 2026. No macro, syntax, notation, axiom, sorry.
-/
import Derived.Test.YtcfjdijmobgbpaaDoorChecked
import GoSem.Claim
import GoSem.ClaimJoined
import GoSem.ClaimMapViews
import Derived.JoinedTies
import Derived.KernelRfl
namespace Go.Proofs.YtcfjdijmobgbpaaDoor
/- THE CELL 'sum', in the pinned program and in every row, IS THE sha256 OF THE DUMP (.gsa) THAT YtcfjdijmobgbpaaDoorProg.lean LOADS. Nothing in Lean hashes anything: it is a label: what it is worth is what the hold of that sum in a sandbox is worth. -/
noncomputable def Tryd.pinned : Pinned := { name := "ytcfjdijmobgbpaadoor", sum := "8ff1008b9a4bfc24d6c8db0856254003990b2b2bdcff743762222abf9acdd08e", checked := Tryd.checked }
namespace Rows
def none {H : Type} : Left H := { results := [], args := [] }

/- WHAT THE LISTED PACKAGE-LEVEL VARIABLES READ AS WHEN THE CALL BEGINS. Each datum BY PROGRAM (the guide's laid-datum.mjs) off the statement by which the dump's own 'gosem.cut.vars' lays the variable. In a bare row this is a premise. The card (YtcfjdijmobgbpaaDoorCards.lean) ties it to the program's text. -/
def laid_respell_set_blocks {H : Type} : DataW H := .agg [.agg [.lit (.int .i64 0), .lit (.int .i64 55295)], .agg [.lit (.int .i64 57344), .lit (.int .i64 1114111)], .agg [.lit (.int .i64 1114240), .lit (.int .i64 1114367)]]

/-- 'respelllaw07.RuleChecks': WHATEVER THE INPUT: true; the input reads as it did. -/
def ruleChecksSpec : ChangeSpec := { name := "ruleChecks", fn := fun _ => fun
  | [d1, d2] => { results := [.lit (.bool true)], args := [d1, d2] }
  | _ => none }
def ruleChecksRow : OpenClaim := { program := "ytcfjdijmobgbpaadoor", sum := "8ff1008b9a4bfc24d6c8db0856254003990b2b2bdcff743762222abf9acdd08e", func := "respell/respelllaw07.RuleChecks", spec := "ruleChecks", unfollowed := true, recurses := true, named := ["respell/set.blocks"], apart := false, laid := [("respell/set.blocks", laid_respell_set_blocks)] }
def RuleChecksSaid : Prop := ruleChecksRow.holds Tryd.pinned (OpenSpec.ofChange ruleChecksSpec)

/-- ITS FALSE NEIGHBOUR: 'it returns false'. Refute it at one input. -/
def ruleChecksWrong : ChangeSpec := { name := "ruleChecks", fn := fun _ => fun
  | [d1, d2] => { results := [.lit (.bool false)], args := [d1, d2] }
  | _ => none }
def RuleChecksWrongFalsely : Prop := ruleChecksRow.holds Tryd.pinned (OpenSpec.ofChange ruleChecksWrong)

/-- 'respelllaw07.RuleLays': WHATEVER THE INPUT: true; the input reads as it did. -/
def ruleLaysSpec : ChangeSpec := { name := "ruleLays", fn := fun _ => fun
  | [d1, d2, d3] => { results := [.lit (.bool true)], args := [d1, d2, d3] }
  | _ => none }
def ruleLaysRow : OpenClaim := { program := "ytcfjdijmobgbpaadoor", sum := "8ff1008b9a4bfc24d6c8db0856254003990b2b2bdcff743762222abf9acdd08e", func := "respell/respelllaw07.RuleLays", spec := "ruleLays", unfollowed := true, recurses := true, named := ["respell/set.blocks"], apart := false, laid := [("respell/set.blocks", laid_respell_set_blocks)] }
def RuleLaysSaid : Prop := ruleLaysRow.holds Tryd.pinned (OpenSpec.ofChange ruleLaysSpec)

/-- ITS FALSE NEIGHBOUR: 'it returns false'. Refute it at one input. -/
def ruleLaysWrong : ChangeSpec := { name := "ruleLays", fn := fun _ => fun
  | [d1, d2, d3] => { results := [.lit (.bool false)], args := [d1, d2, d3] }
  | _ => none }
def RuleLaysWrongFalsely : Prop := ruleLaysRow.holds Tryd.pinned (OpenSpec.ofChange ruleLaysWrong)

/-- 'respelllaw07.RuleUnits': WHATEVER THE INPUT: true; the input reads as it did. -/
def ruleUnitsSpec : ChangeSpec := { name := "ruleUnits", fn := fun _ => fun
  | [d1, d2] => { results := [.lit (.bool true)], args := [d1, d2] }
  | _ => none }
def ruleUnitsRow : OpenClaim := { program := "ytcfjdijmobgbpaadoor", sum := "8ff1008b9a4bfc24d6c8db0856254003990b2b2bdcff743762222abf9acdd08e", func := "respell/respelllaw07.RuleUnits", spec := "ruleUnits", unfollowed := true, recurses := true, named := ["respell/set.blocks"], apart := false, laid := [("respell/set.blocks", laid_respell_set_blocks)] }
def RuleUnitsSaid : Prop := ruleUnitsRow.holds Tryd.pinned (OpenSpec.ofChange ruleUnitsSpec)

/-- ITS FALSE NEIGHBOUR: 'it returns false'. Refute it at one input. -/
def ruleUnitsWrong : ChangeSpec := { name := "ruleUnits", fn := fun _ => fun
  | [d1, d2] => { results := [.lit (.bool false)], args := [d1, d2] }
  | _ => none }
def RuleUnitsWrongFalsely : Prop := ruleUnitsRow.holds Tryd.pinned (OpenSpec.ofChange ruleUnitsWrong)

/-- 'respelllaw07.RulePairs': WHATEVER THE INPUT: true; the input reads as it did. -/
def rulePairsSpec : ChangeSpec := { name := "rulePairs", fn := fun _ => fun
  | [d1, d2, d3, d4] => { results := [.lit (.bool true)], args := [d1, d2, d3, d4] }
  | _ => none }
def rulePairsRow : OpenClaim := { program := "ytcfjdijmobgbpaadoor", sum := "8ff1008b9a4bfc24d6c8db0856254003990b2b2bdcff743762222abf9acdd08e", func := "respell/respelllaw07.RulePairs", spec := "rulePairs", unfollowed := true, recurses := true, named := ["respell/set.blocks"], apart := false, laid := [("respell/set.blocks", laid_respell_set_blocks)] }
def RulePairsSaid : Prop := rulePairsRow.holds Tryd.pinned (OpenSpec.ofChange rulePairsSpec)

/-- ITS FALSE NEIGHBOUR: 'it returns false'. Refute it at one input. -/
def rulePairsWrong : ChangeSpec := { name := "rulePairs", fn := fun _ => fun
  | [d1, d2, d3, d4] => { results := [.lit (.bool false)], args := [d1, d2, d3, d4] }
  | _ => none }
def RulePairsWrongFalsely : Prop := rulePairsRow.holds Tryd.pinned (OpenSpec.ofChange rulePairsWrong)

/-- 'respelllaw07.RuleSame': WHATEVER THE INPUT: true; the input reads as it did. -/
def ruleSameSpec : ChangeSpec := { name := "ruleSame", fn := fun _ => fun
  | [d1, d2] => { results := [.lit (.bool true)], args := [d1, d2] }
  | _ => none }
def ruleSameRow : OpenClaim := { program := "ytcfjdijmobgbpaadoor", sum := "8ff1008b9a4bfc24d6c8db0856254003990b2b2bdcff743762222abf9acdd08e", func := "respell/respelllaw07.RuleSame", spec := "ruleSame", unfollowed := true, recurses := true, named := ["respell/set.blocks"], apart := false, laid := [("respell/set.blocks", laid_respell_set_blocks)] }
def RuleSameSaid : Prop := ruleSameRow.holds Tryd.pinned (OpenSpec.ofChange ruleSameSpec)

/-- ITS FALSE NEIGHBOUR: 'it returns false'. Refute it at one input. -/
def ruleSameWrong : ChangeSpec := { name := "ruleSame", fn := fun _ => fun
  | [d1, d2] => { results := [.lit (.bool false)], args := [d1, d2] }
  | _ => none }
def RuleSameWrongFalsely : Prop := ruleSameRow.holds Tryd.pinned (OpenSpec.ofChange ruleSameWrong)

/-- 'respelllaw07.RuleNames': WHATEVER THE INPUT: true; the input reads as it did. -/
def ruleNamesSpec : ChangeSpec := { name := "ruleNames", fn := fun _ => fun
  | [] => { results := [.lit (.bool true)], args := [] }
  | _ => none }
def ruleNamesRow : OpenClaim := { program := "ytcfjdijmobgbpaadoor", sum := "8ff1008b9a4bfc24d6c8db0856254003990b2b2bdcff743762222abf9acdd08e", func := "respell/respelllaw07.RuleNames", spec := "ruleNames", unfollowed := true, recurses := true, named := ["respell/set.blocks"], apart := false, laid := [("respell/set.blocks", laid_respell_set_blocks)] }
def RuleNamesSaid : Prop := ruleNamesRow.holds Tryd.pinned (OpenSpec.ofChange ruleNamesSpec)

/-- ITS FALSE NEIGHBOUR: 'it returns false'. Refute it at one input. -/
def ruleNamesWrong : ChangeSpec := { name := "ruleNames", fn := fun _ => fun
  | [] => { results := [.lit (.bool false)], args := [] }
  | _ => none }
def RuleNamesWrongFalsely : Prop := ruleNamesRow.holds Tryd.pinned (OpenSpec.ofChange ruleNamesWrong)

/- THE SECOND FORM. 'bulk': how many values and letters a reading holds, each counted each time it is reached (what is shared counts as often as it is met; a slice's spare places count too). A statement '..UptoSaid' is the law's where the arguments, and the package variables that the reading takes, are together of bulk at most 1048576: NARROWER than '..Said'. Prove '..Said' where nothing that the law and all that it calls make is longer than what came in: it says more and counts as full. Else prove '..UptoSaid'. A law counts once. -/
mutual
def uptoBulk {H : Type} : DataW H → Nat
  | .lit (.string bytes) => bytes.length + 1
  | .lit _ => 1
  | .nil => 1
  | .ptr d => uptoBulk d + 1
  | .slice elems spare => uptoBulkAll elems + uptoBulkAll spare + 1
  | .agg parts => uptoBulkAll parts + 1
  | .iface _ d => uptoBulk d + 1
  | .map entries => uptoBulkEntries entries + 1
  | .held _ => 1
def uptoBulkAll {H : Type} : List (DataW H) → Nat
  | [] => 0
  | d :: r => uptoBulk d + uptoBulkAll r
def uptoBulkEntries {H : Type} : List (Lit × DataW H) → Nat
  | [] => 0
  | x :: r => uptoBulkEntry x + uptoBulkEntries r
def uptoBulkEntry {H : Type} : Lit × DataW H → Nat
  | (.string bytes, d) => bytes.length + uptoBulk d + 1
  | (_, d) => uptoBulk d + 1
 end
def uptoSmall : (H : Type) → List (DataW H) → Bool := fun _ ds => decide (uptoBulkAll ds ≤ 1048576)
def OpenSpec.upto (s : _root_.Go.ChangeSpec) : _root_.Go.OpenSpec := { _root_.Go.OpenSpec.ofChange s with cond := some uptoSmall }

/-- 'respelllaw07.RuleChecks', WHERE WHAT IT READS IS OF BULK AT MOST 1048576: true; the input reads as it did. -/
def ruleChecksUptoRow : OpenClaim := { program := "ytcfjdijmobgbpaadoor", sum := "8ff1008b9a4bfc24d6c8db0856254003990b2b2bdcff743762222abf9acdd08e", func := "respell/respelllaw07.RuleChecks", spec := "ruleChecks", unfollowed := true, recurses := true, named := ["respell/set.blocks"], apart := false, laid := [("respell/set.blocks", laid_respell_set_blocks)], narrowed := true }
def RuleChecksUptoSaid : Prop := ruleChecksUptoRow.holds Tryd.pinned (OpenSpec.upto ruleChecksSpec)

/-- 'respelllaw07.RuleLays', WHERE WHAT IT READS IS OF BULK AT MOST 1048576: true; the input reads as it did. -/
def ruleLaysUptoRow : OpenClaim := { program := "ytcfjdijmobgbpaadoor", sum := "8ff1008b9a4bfc24d6c8db0856254003990b2b2bdcff743762222abf9acdd08e", func := "respell/respelllaw07.RuleLays", spec := "ruleLays", unfollowed := true, recurses := true, named := ["respell/set.blocks"], apart := false, laid := [("respell/set.blocks", laid_respell_set_blocks)], narrowed := true }
def RuleLaysUptoSaid : Prop := ruleLaysUptoRow.holds Tryd.pinned (OpenSpec.upto ruleLaysSpec)

/-- 'respelllaw07.RuleUnits', WHERE WHAT IT READS IS OF BULK AT MOST 1048576: true; the input reads as it did. -/
def ruleUnitsUptoRow : OpenClaim := { program := "ytcfjdijmobgbpaadoor", sum := "8ff1008b9a4bfc24d6c8db0856254003990b2b2bdcff743762222abf9acdd08e", func := "respell/respelllaw07.RuleUnits", spec := "ruleUnits", unfollowed := true, recurses := true, named := ["respell/set.blocks"], apart := false, laid := [("respell/set.blocks", laid_respell_set_blocks)], narrowed := true }
def RuleUnitsUptoSaid : Prop := ruleUnitsUptoRow.holds Tryd.pinned (OpenSpec.upto ruleUnitsSpec)

/-- 'respelllaw07.RulePairs', WHERE WHAT IT READS IS OF BULK AT MOST 1048576: true; the input reads as it did. -/
def rulePairsUptoRow : OpenClaim := { program := "ytcfjdijmobgbpaadoor", sum := "8ff1008b9a4bfc24d6c8db0856254003990b2b2bdcff743762222abf9acdd08e", func := "respell/respelllaw07.RulePairs", spec := "rulePairs", unfollowed := true, recurses := true, named := ["respell/set.blocks"], apart := false, laid := [("respell/set.blocks", laid_respell_set_blocks)], narrowed := true }
def RulePairsUptoSaid : Prop := rulePairsUptoRow.holds Tryd.pinned (OpenSpec.upto rulePairsSpec)

/-- 'respelllaw07.RuleSame', WHERE WHAT IT READS IS OF BULK AT MOST 1048576: true; the input reads as it did. -/
def ruleSameUptoRow : OpenClaim := { program := "ytcfjdijmobgbpaadoor", sum := "8ff1008b9a4bfc24d6c8db0856254003990b2b2bdcff743762222abf9acdd08e", func := "respell/respelllaw07.RuleSame", spec := "ruleSame", unfollowed := true, recurses := true, named := ["respell/set.blocks"], apart := false, laid := [("respell/set.blocks", laid_respell_set_blocks)], narrowed := true }
def RuleSameUptoSaid : Prop := ruleSameUptoRow.holds Tryd.pinned (OpenSpec.upto ruleSameSpec)

/-- 'respelllaw07.RuleNames', WHERE WHAT IT READS IS OF BULK AT MOST 1048576: true; the input reads as it did. -/
def ruleNamesUptoRow : OpenClaim := { program := "ytcfjdijmobgbpaadoor", sum := "8ff1008b9a4bfc24d6c8db0856254003990b2b2bdcff743762222abf9acdd08e", func := "respell/respelllaw07.RuleNames", spec := "ruleNames", unfollowed := true, recurses := true, named := ["respell/set.blocks"], apart := false, laid := [("respell/set.blocks", laid_respell_set_blocks)], narrowed := true }
def RuleNamesUptoSaid : Prop := ruleNamesUptoRow.holds Tryd.pinned (OpenSpec.upto ruleNamesSpec)

end Rows
end Go.Proofs.YtcfjdijmobgbpaaDoor
