/-
  Scan: the tokens of a text, one behind the other.
-/
import Derived.Shelf.Abstract
import Derived.Shelf.RegionOpen
import Derived.WalkKit
import Derived.WalkSpells
import Derived.WalkLawsBesides
import Derived.BigQuiet
import Derived.Deep.QuietTactic
import Derived.Deep.LoopGhost
import Derived.Lib.OthersKept
import Derived.ScopeJumps
import Derived.WalkMore
import Derived.Maps.AppendAt
import Derived.Lib.SmallJoins
import Derived.Test.YtknaoahokopplaaGreatDoorXec
namespace Go.Proofs
open Go.RowKit Go.Shelf

set_option maxRecDepth 100000
attribute [local go_sem] Oper.semAt_some


/-- from a place on, the tokens toks are read; then the text ends (fe = 0), or a token at fa is refused by fe -/
inductive Run (s : ByteArray) : Nat → Bool → List Tok → Nat → Int → Prop
  | fin {p : Nat} {fresh : Bool} (h : p + pastN false (s.data.toList.drop p) = s.size) : Run s p fresh [] 0 0
  | bad {p : Nat} {fresh : Bool} {q : Nat} {e0 : Int} (hq : q = p + pastN false (s.data.toList.drop p)) (hlt : q < s.size) (hb : Tells 47 #[.string (s.extract q s.size), .bool fresh] 0 0 0 0 ⟨#[]⟩ 0 e0) (he : e0 ≠ 0) : Run s p fresh [] q e0
  | step {p : Nat} {fresh : Bool} {q : Nat} {k u : Int} {l : Nat} {t : ByteArray} {n : Int} {toks : List Tok} {fa : Nat} {fe : Int} (hq : q = p + pastN false (s.data.toList.drop p)) (hlt : q < s.size) (hb : Tells 47 #[.string (s.extract q s.size), .bool fresh] k 0 l u t n 0) (h0 : 0 < l) (hl : q + l ≤ s.size) (hr : Run s (q + l) (decide (k = 11)) toks fa fe) : Run s p fresh (⟨k, q, l, u, t, n⟩ :: toks) fa fe
end Go.Proofs
