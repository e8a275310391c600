/-
  NARROWER THAN 'FOR EVERY INPUT', by the rows' own cells (each row's printed sentence says how): ClassOf: laid · ClassNames: laid · ClassPartners: laid · ClassPairs: laid.
  DERIVED. THE GIVEN ROWS OF THIS SEAT. 4 by the template 'for every input the law returns true; each argument reads behind the call as it read before'; 0 by the template 'total and deterministic' (their statements: YtaekagipnolhiaaDoorTotals.lean).
  GIVEN WITH THE SEED: the statements are not yours to turn. If you find one false, say at which input.
  Laid BY PROGRAM, IN A SANDBOX (cutbox-rows.mjs): the forced cells as the released guide's own fill.sh prints them over the translation 687d7f38632b07bb… (all of the seat's roots in one cut). By AI agents, Wed Nov 11 2026. No macro, syntax, notation, axiom, sorry.
-/
import Derived.Test.YtaekagipnolhiaaDoorChecked
import GoSem.Claim
import GoSem.ClaimJoined
import GoSem.ClaimMapViews
import Derived.JoinedTies
import Derived.KernelRfl
namespace Go.Proofs.YtaekagipnolhiaaDoor
/- THE CELL 'sum', in the pinned program and in every row, IS THE sha256 OF THE DUMP (.gsa) THAT YtaekagipnolhiaaDoorProg.lean LOADS. Nothing in Lean hashes anything: it is a label: what it is worth is what the hold of that sum in a sandbox is worth. -/
noncomputable def Tryd.pinned : Pinned := { name := "ytaekagipnolhiaadoor", sum := "687d7f38632b07bb874fbe451600860c1f1b20eefd9e2ebbb2e70c0ece5012aa", checked := Tryd.checked }
namespace Rows
def none {H : Type} : Left H := { results := [], args := [] }

/- WHAT THE LISTED PACKAGE-LEVEL VARIABLES READ AS WHEN THE CALL BEGINS. Each datum BY PROGRAM (the guide's laid-datum.mjs) off the statement by which the dump's own 'gosem.cut.vars' lays the variable. In a bare row this is a premise. The card (YtaekagipnolhiaaDoorCards.lean) ties it to the program's text. -/
def laid_respell_class_greats {H : Type} : DataW H := .agg [.agg [.lit (.int .i64 65), .lit (.int .i64 90), .lit (.int .i64 32)], .agg [.lit (.int .i64 192), .lit (.int .i64 214), .lit (.int .i64 32)], .agg [.lit (.int .i64 216), .lit (.int .i64 222), .lit (.int .i64 32)], .agg [.lit (.int .i64 913), .lit (.int .i64 929), .lit (.int .i64 32)], .agg [.lit (.int .i64 931), .lit (.int .i64 937), .lit (.int .i64 32)], .agg [.lit (.int .i64 1024), .lit (.int .i64 1039), .lit (.int .i64 80)], .agg [.lit (.int .i64 1040), .lit (.int .i64 1071), .lit (.int .i64 32)]]

/-- 'respelllaw03.ClassOf': WHATEVER THE INPUT: true; the input reads as it did. -/
def classOfSpec : ChangeSpec := { name := "classOf", fn := fun _ => fun
  | [d1, d2] => { results := [.lit (.bool true)], args := [d1, d2] }
  | _ => none }
def classOfRow : OpenClaim := { program := "ytaekagipnolhiaadoor", sum := "687d7f38632b07bb874fbe451600860c1f1b20eefd9e2ebbb2e70c0ece5012aa", func := "respell/respelllaw03.ClassOf", spec := "classOf", named := ["respell/class.greats"], apart := false, laid := [("respell/class.greats", laid_respell_class_greats)] }
def ClassOfSaid : Prop := classOfRow.holds Tryd.pinned (OpenSpec.ofChange classOfSpec)

/-- ITS FALSE NEIGHBOUR: 'it returns false'. Refute it at one input. -/
def classOfWrong : ChangeSpec := { name := "classOf", fn := fun _ => fun
  | [d1, d2] => { results := [.lit (.bool false)], args := [d1, d2] }
  | _ => none }
def ClassOfWrongFalsely : Prop := classOfRow.holds Tryd.pinned (OpenSpec.ofChange classOfWrong)

/-- 'respelllaw03.ClassNames': WHATEVER THE INPUT: true; the input reads as it did. -/
def classNamesSpec : ChangeSpec := { name := "classNames", fn := fun _ => fun
  | [] => { results := [.lit (.bool true)], args := [] }
  | _ => none }
def classNamesRow : OpenClaim := { program := "ytaekagipnolhiaadoor", sum := "687d7f38632b07bb874fbe451600860c1f1b20eefd9e2ebbb2e70c0ece5012aa", func := "respell/respelllaw03.ClassNames", spec := "classNames", named := ["respell/class.greats"], apart := false, laid := [("respell/class.greats", laid_respell_class_greats)] }
def ClassNamesSaid : Prop := classNamesRow.holds Tryd.pinned (OpenSpec.ofChange classNamesSpec)

/-- ITS FALSE NEIGHBOUR: 'it returns false'. Refute it at one input. -/
def classNamesWrong : ChangeSpec := { name := "classNames", fn := fun _ => fun
  | [] => { results := [.lit (.bool false)], args := [] }
  | _ => none }
def ClassNamesWrongFalsely : Prop := classNamesRow.holds Tryd.pinned (OpenSpec.ofChange classNamesWrong)

/-- 'respelllaw03.ClassPartners': WHATEVER THE INPUT: true; the input reads as it did. -/
def classPartnersSpec : ChangeSpec := { name := "classPartners", fn := fun _ => fun
  | [d] => { results := [.lit (.bool true)], args := [d] }
  | _ => none }
def classPartnersRow : OpenClaim := { program := "ytaekagipnolhiaadoor", sum := "687d7f38632b07bb874fbe451600860c1f1b20eefd9e2ebbb2e70c0ece5012aa", func := "respell/respelllaw03.ClassPartners", spec := "classPartners", named := ["respell/class.greats"], apart := false, laid := [("respell/class.greats", laid_respell_class_greats)] }
def ClassPartnersSaid : Prop := classPartnersRow.holds Tryd.pinned (OpenSpec.ofChange classPartnersSpec)

/-- ITS FALSE NEIGHBOUR: 'it returns false'. Refute it at one input. -/
def classPartnersWrong : ChangeSpec := { name := "classPartners", fn := fun _ => fun
  | [d] => { results := [.lit (.bool false)], args := [d] }
  | _ => none }
def ClassPartnersWrongFalsely : Prop := classPartnersRow.holds Tryd.pinned (OpenSpec.ofChange classPartnersWrong)

/-- 'respelllaw03.ClassPairs': WHATEVER THE INPUT: true; the input reads as it did. -/
def classPairsSpec : ChangeSpec := { name := "classPairs", fn := fun _ => fun
  | [d] => { results := [.lit (.bool true)], args := [d] }
  | _ => none }
def classPairsRow : OpenClaim := { program := "ytaekagipnolhiaadoor", sum := "687d7f38632b07bb874fbe451600860c1f1b20eefd9e2ebbb2e70c0ece5012aa", func := "respell/respelllaw03.ClassPairs", spec := "classPairs", named := ["respell/class.greats"], apart := false, laid := [("respell/class.greats", laid_respell_class_greats)] }
def ClassPairsSaid : Prop := classPairsRow.holds Tryd.pinned (OpenSpec.ofChange classPairsSpec)

/-- ITS FALSE NEIGHBOUR: 'it returns false'. Refute it at one input. -/
def classPairsWrong : ChangeSpec := { name := "classPairs", fn := fun _ => fun
  | [d] => { results := [.lit (.bool false)], args := [d] }
  | _ => none }
def ClassPairsWrongFalsely : Prop := classPairsRow.holds Tryd.pinned (OpenSpec.ofChange classPairsWrong)

/- THE SECOND FORM. 'bulk': how many values and letters a reading holds, each counted each time it is reached (what is shared counts as often as it is met; a slice's spare places count too). A statement '..UptoSaid' is the law's where the arguments, and the package variables that the reading takes, are together of bulk at most 1048576: NARROWER than '..Said'. Prove '..Said' where nothing that the law and all that it calls make is longer than what came in: it says more and counts as full. Else prove '..UptoSaid'. A law counts once. -/
mutual
def uptoBulk {H : Type} : DataW H → Nat
  | .lit (.string bytes) => bytes.length + 1
  | .lit _ => 1
  | .nil => 1
  | .ptr d => uptoBulk d + 1
  | .slice elems spare => uptoBulkAll elems + uptoBulkAll spare + 1
  | .agg parts => uptoBulkAll parts + 1
  | .iface _ d => uptoBulk d + 1
  | .map entries => uptoBulkEntries entries + 1
  | .held _ => 1
def uptoBulkAll {H : Type} : List (DataW H) → Nat
  | [] => 0
  | d :: r => uptoBulk d + uptoBulkAll r
def uptoBulkEntries {H : Type} : List (Lit × DataW H) → Nat
  | [] => 0
  | x :: r => uptoBulkEntry x + uptoBulkEntries r
def uptoBulkEntry {H : Type} : Lit × DataW H → Nat
  | (.string bytes, d) => bytes.length + uptoBulk d + 1
  | (_, d) => uptoBulk d + 1
 end
def uptoSmall : (H : Type) → List (DataW H) → Bool := fun _ ds => decide (uptoBulkAll ds ≤ 1048576)
def OpenSpec.upto (s : _root_.Go.ChangeSpec) : _root_.Go.OpenSpec := { _root_.Go.OpenSpec.ofChange s with cond := some uptoSmall }

/-- 'respelllaw03.ClassOf', WHERE WHAT IT READS IS OF BULK AT MOST 1048576: true; the input reads as it did. -/
def classOfUptoRow : OpenClaim := { program := "ytaekagipnolhiaadoor", sum := "687d7f38632b07bb874fbe451600860c1f1b20eefd9e2ebbb2e70c0ece5012aa", func := "respell/respelllaw03.ClassOf", spec := "classOf", named := ["respell/class.greats"], apart := false, laid := [("respell/class.greats", laid_respell_class_greats)], narrowed := true }
def ClassOfUptoSaid : Prop := classOfUptoRow.holds Tryd.pinned (OpenSpec.upto classOfSpec)

/-- 'respelllaw03.ClassNames', WHERE WHAT IT READS IS OF BULK AT MOST 1048576: true; the input reads as it did. -/
def classNamesUptoRow : OpenClaim := { program := "ytaekagipnolhiaadoor", sum := "687d7f38632b07bb874fbe451600860c1f1b20eefd9e2ebbb2e70c0ece5012aa", func := "respell/respelllaw03.ClassNames", spec := "classNames", named := ["respell/class.greats"], apart := false, laid := [("respell/class.greats", laid_respell_class_greats)], narrowed := true }
def ClassNamesUptoSaid : Prop := classNamesUptoRow.holds Tryd.pinned (OpenSpec.upto classNamesSpec)

/-- 'respelllaw03.ClassPartners', WHERE WHAT IT READS IS OF BULK AT MOST 1048576: true; the input reads as it did. -/
def classPartnersUptoRow : OpenClaim := { program := "ytaekagipnolhiaadoor", sum := "687d7f38632b07bb874fbe451600860c1f1b20eefd9e2ebbb2e70c0ece5012aa", func := "respell/respelllaw03.ClassPartners", spec := "classPartners", named := ["respell/class.greats"], apart := false, laid := [("respell/class.greats", laid_respell_class_greats)], narrowed := true }
def ClassPartnersUptoSaid : Prop := classPartnersUptoRow.holds Tryd.pinned (OpenSpec.upto classPartnersSpec)

/-- 'respelllaw03.ClassPairs', WHERE WHAT IT READS IS OF BULK AT MOST 1048576: true; the input reads as it did. -/
def classPairsUptoRow : OpenClaim := { program := "ytaekagipnolhiaadoor", sum := "687d7f38632b07bb874fbe451600860c1f1b20eefd9e2ebbb2e70c0ece5012aa", func := "respell/respelllaw03.ClassPairs", spec := "classPairs", named := ["respell/class.greats"], apart := false, laid := [("respell/class.greats", laid_respell_class_greats)], narrowed := true }
def ClassPairsUptoSaid : Prop := classPairsUptoRow.holds Tryd.pinned (OpenSpec.upto classPairsSpec)

end Rows
end Go.Proofs.YtaekagipnolhiaaDoor
