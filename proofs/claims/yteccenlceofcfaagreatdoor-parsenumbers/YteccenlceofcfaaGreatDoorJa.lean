/-
  What the parser says of a row of tokens, by thinking alone: items, rows of items, lines.
-/
import Derived.Test.YteccenlceofcfaaGreatDoorTk
namespace Go.Proofs
open Go.RowKit Go.Shelf

/-- an item -/
inductive It where
  | mk (k u : Int) (t : ByteArray) (ps : List It) (lo hi : Int) (nt : Bool) (key : Int)
/-- a line -/
structure Ln where
  (k a : Int) (t : ByteArray) (bg en : Bool) (ante key post res : List It) (cur : Int)
/-- what is read, and what is left; or a fault -/
inductive Res (α : Type) where
  | ok (x : α) (r : List Tok)
  | no (a c : Int)
def Res.bind {α β : Type} (x : Res α) (f : α → List Tok → Res β) : Res β :=
  match x with
  | .ok y r => f y r
  | .no a c => .no a c
def byteAt (t : ByteArray) (i : Nat) : Int := ((t.data.getD i 0).toNat : Int)
def which (t : Tok) : Int := if t.k = 2 then byteAt t.t 0 else t.k
def nxt : List Tok → Int
  | [] => 0
  | t :: _ => which t
def atOf (e : Int) : List Tok → Int
  | [] => e
  | t :: _ => t.a
def begun (n : Int) : Nat := if n = 1 then 1 else if n = 36 then 2 else if n = 58 then 3 else if n = 17 then 4 else if n = 18 then 5 else if n = 3 then 7 else 0
def bareN (t : Tok) : ByteArray := if which t = 58 then t.t.extract 1 (t.t.size - 1) else t.t.extract 1 t.t.size
def passT (n : Int) (ts : List Tok) : Bool × List Tok := if nxt ts = n then (true, ts.tail) else (false, ts)
def wantT (e n : Int) (ts : List Tok) : Res Unit := if nxt ts = n then .ok () ts.tail else .no (atOf e ts) 50
def isRng (lo hi : Int) : Bool := decide (lo ≤ hi) && (decide (1114111 < lo) == decide (1114111 < hi))
def upToT (e : Int) (f : Tok) : List Tok → Res It
  | [] => .no e 50
  | t :: r => if which t = 1 then (if isRng f.u t.u then .ok (.mk 6 0 ⟨#[]⟩ [] f.u t.u false 0) r else .no f.a 51) else .no t.a 50
/-- the next items, as many as may stand there: d more -/
def rowT (e : Int) (may : Nat) (item : List Tok → Res It) : Nat → List Tok → Res (List It)
  | 0, ts => if may.testBit (begun (nxt ts)) then .no (atOf e ts) 52 else .ok [] ts
  | d + 1, ts => if may.testBit (begun (nxt ts)) then (item ts).bind fun x r => (rowT e may item d r).bind fun xs r2 => .ok (x :: xs) r2 else .ok [] ts
/-- an item's rest, behind its first token -/
def restT (e : Int) (may : Nat) (sets : List Tok → Res (List It)) (pairs : List Tok → Res It) (t : Tok) (r : List Tok) : Res It :=
  match begun (which t) with
  | 1 => if may.testBit 6 && (nxt r == 20) then upToT e t r.tail else .ok (.mk 1 t.u ⟨#[]⟩ [] 0 0 false 0) r
  | 2 => .ok (.mk 2 0 (bareN t) [] 0 0 false 0) r
  | 3 => .ok (.mk 3 0 (bareN t) [] 0 0 false 0) r
  | 4 => .ok (.mk 4 0 ⟨#[]⟩ [] 0 0 false 0) r
  | 5 => (sets (passT 15 r).2).bind fun ps r2 => (wantT e 19 r2).bind fun _ r3 => .ok (.mk 5 0 ⟨#[]⟩ ps 0 0 (passT 15 r).1 0) r3
  | _ => if nxt r = 22 then (pairs r.tail).bind fun x r2 => .ok (.mk 8 0 ⟨#[]⟩ [x] 0 0 false t.n) r2 else .ok (.mk 7 0 ⟨#[]⟩ [] 0 0 false t.n) r
def itemT (e : Int) (may : Nat) (sets : List Tok → Res (List It)) (pairs : List Tok → Res It) : List Tok → Res It
  | [] => .no e 50
  | t :: r => if may.testBit (begun (which t)) then restT e may sets pairs t r else .no t.a 50
def noRow : List Tok → Res (List It) := fun _ => .no 0 0
def noItem : List Tok → Res It := fun _ => .no 0 0
def partT (e : Int) : List Tok → Res It := itemT e 78 noRow noItem
def partsT (e : Int) : List Tok → Res (List It) := rowT e 78 (partT e) 512
/-- an item of a rule's sides (62), of a pair (60) -/
def sideT (e : Int) (may : Nat) : List Tok → Res It := itemT e may (partsT e) noItem
def pieceT (e : Int) : List Tok → Res It := itemT e 386 noRow (sideT e 60)
def sidesT (e : Int) : List Tok → Res (List It) := rowT e 62 (sideT e 62) 512
def resultT (e : Int) (d : Nat) : List Tok → Res (List It) := rowT e 386 (pieceT e) d
def postT (e : Int) (ts : List Tok) : Res (List It × Bool) :=
  if nxt ts = 13 then (sidesT e ts.tail).bind fun po r => .ok (po, (passT 16 r).1) (passT 16 r).2 else .ok ([], false) ts
def tailT (e : Int) (ts : List Tok) : Res (List It × Int) :=
  (resultT e 512 ts).bind fun x r => if nxt r = 14 then (resultT e (512 - x.length) r.tail).bind fun y r2 => .ok (x ++ y, (x.length : Int)) r2 else .ok (x, (x.length : Int)) r
def anteT (e : Int) (bg : Bool) (x : List It) (ts : List Tok) : Res (List It × List It) :=
  if bg || (nxt ts == 12) then (wantT e 12 ts).bind fun _ r => (sidesT e r).bind fun y r2 => .ok (x, y) r2 else .ok ([], x) ts
def ruleT (e : Int) (ts : List Tok) : Res Ln :=
  (sidesT e (passT 15 ts).2).bind fun x r1 => (anteT e (passT 15 ts).1 x r1).bind fun ak r2 => (postT e r2).bind fun pe r3 => (wantT e 10 r3).bind fun _ r4 => (tailT e r4).bind fun rc r5 =>
    .ok ⟨2, 0, ⟨#[]⟩, (passT 15 ts).1, pe.2, ak.1, ak.2, pe.1, rc.1, rc.2⟩ r5
def defT (e : Int) (t : Tok) (ts : List Tok) : Res Ln :=
  (wantT e 21 ts).bind fun _ r => (sideT e 62 r).bind fun x r2 => .ok ⟨1, 0, bareN t, false, false, [], [x], [], [], 0⟩ r2
def someT (e : Int) (ts : List Tok) : Res Ln :=
  match ts with
  | [] => ruleT e []
  | t :: r => if which t = 116 then .ok ⟨3, 0, ⟨#[]⟩, false, false, [], [], [], [], 0⟩ r else if which t = 36 ∧ nxt r = 21 then defT e t r else ruleT e (t :: r)
def lineT (e : Int) (ts : List Tok) : Res Ln :=
  (someT e ts).bind fun l r => (wantT e 11 r).bind fun _ r2 => .ok { l with a := atOf e ts } r2
/-- all lines: f bounds how many -/
def linesT (e : Int) : Nat → List Tok → Res (List Ln)
  | 0, ts => .ok [] ts
  | f + 1, ts => if nxt ts = 0 then .ok [] ts else (lineT e ts).bind fun l r => (linesT e f r).bind fun ls r2 => .ok (l :: ls) r2
end Go.Proofs
