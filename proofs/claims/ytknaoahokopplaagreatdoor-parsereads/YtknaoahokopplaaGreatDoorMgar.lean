/-
  Several texts in one (Tkr Jar).
-/
import Derived.Shelf.Abstract
import Derived.WalkKit
import Derived.WalkSpells
import Derived.WalkLawsBesides
import Derived.Lib.OthersKept
import Derived.WalkMore
import Derived.Maps.AppendAt
import Derived.RangeFuncBox
import Derived.Lib.SmallJoins
import Derived.Test.YtknaoahokopplaaGreatDoorProg
namespace Go.Proofs
open Go.RowKit Go.Shelf

set_option maxRecDepth 100000
attribute [local go_sem] Oper.semAt_some

abbrev tk (k a l u : Int) (t : ByteArray) (n : Int) : Value := .agg #[.int .i64 k, .int .i64 a, .int .i64 l, .int .i64 u, .string t, .int .i64 n]
/-! a token in a block of its own -/
def TB (W : World) (B : Nat) (k a l u : Int) (t : ByteArray) (n : Int) : Prop := W.heap[B]? = some (.cells #[.int .i64 k, .int .i64 a, .int .i64 l, .int .i64 u, .string t, .int .i64 n] 52 (0, 0))
theorem TB.new (W : World) (k a l u : Int) (t : ByteArray) (n : Int) : TB (W.alloc (.cells #[.int .i64 k, .int .i64 a, .int .i64 l, .int .i64 u, .string t, .int .i64 n] 52)) W.heap.size k a l u t n := World.alloc_heap_new _ _
theorem TB.lt {W : World} {B : Nat} {k a l u : Int} {t : ByteArray} {n : Int} (h : TB W B k a l u t n) : B < W.heap.size := (Array.getElem?_eq_some_iff.1 h).1
theorem TB.below {W W' : World} {B m : Nat} {k a l u : Int} {t : ByteArray} {n : Int} (h : TB W B k a l u t n) (hb : Below m W W') (hm : B < m) : TB W' B k a l u t n := (hb.block B hm).trans h
theorem TB.cells {W : World} {B : Nat} {k a l u : Int} {t : ByteArray} {n : Int} (h : TB W B k a l u t n) :
    W.cell? ⟨B, 0, none⟩ = some (.int .i64 k) ∧ W.cell? ⟨B, 1, none⟩ = some (.int .i64 a) ∧ W.cell? ⟨B, 2, none⟩ = some (.int .i64 l) ∧ W.cell? ⟨B, 3, none⟩ = some (.int .i64 u) ∧ W.cell? ⟨B, 4, none⟩ = some (.string t) ∧ W.cell? ⟨B, 5, none⟩ = some (.int .i64 n) := by
  simp [World.cell?, show W.heap[B]? = _ from h]
theorem TB.frozen {W : World} {B : Nat} {k a l u : Int} {t : ByteArray} {n : Int} (h : TB W B k a l u t n) :
    W.frozen? ⟨B, 0, none⟩ = false ∧ W.frozen? ⟨B, 1, none⟩ = false ∧ W.frozen? ⟨B, 2, none⟩ = false ∧ W.frozen? ⟨B, 3, none⟩ = false ∧ W.frozen? ⟨B, 4, none⟩ = false ∧ W.frozen? ⟨B, 5, none⟩ = false := by
  simp [World.frozen?, show W.heap[B]? = _ from h]
theorem cells_setS {w : World} {g : Nat} {cur : Array Value} {t : TypeId} {j : Nat} {u : Value} (h : w.heap[g]? = some (.cells cur t (0, 0))) : (w.setCell ⟨g, j, none⟩ u).heap[g]? = some (.cells (cur.setIfInBounds j u) t (0, 0)) := by
  show (w.heap.modify g _)[g]? = _
  rw [Array.getElem?_modify, if_pos rfl, h]
  rfl
abbrev set6 (W : World) (B : Nat) (k a l u : Int) (t : ByteArray) (n : Int) : World := (((((W.setCell ⟨B, 0, none⟩ (.int .i64 k)).setCell ⟨B, 1, none⟩ (.int .i64 a)).setCell ⟨B, 2, none⟩ (.int .i64 l)).setCell ⟨B, 3, none⟩ (.int .i64 u)).setCell ⟨B, 4, none⟩ (.string t)).setCell ⟨B, 5, none⟩ (.int .i64 n)
theorem TB.set {W : World} {B : Nat} {k a l u : Int} {t : ByteArray} {n : Int} (h : TB W B k a l u t n) (k' a' l' u' : Int) (t' : ByteArray) (n' : Int) : TB (set6 W B k' a' l' u' t' n') B k' a' l' u' t' n' := by
  have := cells_setS (j := 5) (u := .int .i64 n') (cells_setS (j := 4) (u := .string t') (cells_setS (j := 3) (u := .int .i64 u') (cells_setS (j := 2) (u := .int .i64 l') (cells_setS (j := 1) (u := .int .i64 a') (cells_setS (j := 0) (u := .int .i64 k') h)))))
  simpa [TB, set6] using this
theorem below_set6 {m : Nat} {w W : World} {B : Nat} (h : Below m w W) (hm : m ≤ B) (k a l u : Int) (t : ByteArray) (n : Int) : Below m w (set6 W B k a l u t n) :=
  (((((h.setCell (p := ⟨B, 0, none⟩) hm _).setCell (p := ⟨B, 1, none⟩) hm _).setCell (p := ⟨B, 2, none⟩) hm _).setCell (p := ⟨B, 3, none⟩) hm _).setCell (p := ⟨B, 4, none⟩) hm _).setCell (p := ⟨B, 5, none⟩) hm _
theorem ret_tk {fn : Func} {p q : Tmp} {W : World} {B : Nat} {tmps : Array Value} {k a l u : Int} {t : ByteArray} {n e : Int} {R : Ending → World → Prop} (hr : fn.results = #[.cell p 52, .tmp q]) (hp : tmps.getD p undef = .pointer (some ⟨B, 0, none⟩)) (hq : tmps.getD q undef = .int .i64 e) (h : TB W B k a l u t n)
    (K : R (.returned (.tuple #[tk k a l u t n, .int .i64 e])) W) : bodyPost Tryz.prog fn R Exit.ret { tmps := tmps, defers := [] } W := by
  refine bodyPost_ret (v := .tuple #[tk k a l u t n, .int .i64 e]) ?_ rfl K
  rw [results_cell_tmp hr]
  simp only [hp, hq]
  obtain ⟨c0, c1, c2, c3, c4, c5⟩ := h.cells
  simp [go_sem, Result.andThen, c0, c1, c2, c3, c4, c5]
structure Tok where
  (k a l u : Int) (t : ByteArray) (n : Int)
def tok1 (x : Tok) : List Value := [.int .i64 x.k, .int .i64 x.a, .int .i64 x.l, .int .i64 x.u, .string x.t, .int .i64 x.n]
def ft (l : List Tok) : List Value := l.flatMap tok1
theorem ft_append (l m : List Tok) : ft (l ++ m) = ft l ++ ft m := by simp [ft]
theorem ft_length (l : List Tok) : (ft l).length = l.length * 6 := by
  induction l with
  | nil => rfl
  | cons a l ih => simp [ft, tok1] at ih ⊢; omega
theorem ft_one (l : List Tok) : ∀ u ∈ ft l, u.oneCell' = true := by
  intro u hu
  simp only [ft, List.mem_flatMap] at hu
  obtain ⟨x, _, hx⟩ := hu
  simp only [tok1, List.mem_cons, List.not_mem_nil, or_false] at hx
  rcases hx with rfl | rfl | rfl | rfl | rfl | rfl <;> rfl
/-- a row of the call's own -/
def OwnT (w : World) (base : Nat) (v : Value) (l : List Tok) : Prop := w.ownsRow base 52 6 v l.length (ft l)
theorem OwnT.nil (w : World) (base : Nat) : OwnT w base (.slice none 0 0) [] := World.ownsRow_nil _ _ _ _
theorem OwnT.alloc {w : World} {base : Nat} {v : Value} {l : List Tok} (h : OwnT w base v l) (o : Obj) : OwnT (w.alloc o) base v l := World.ownsRow.alloc h o
theorem OwnT.kept {w w' : World} {row : Option Nat} {base : Nat} {v : Value} {l : List Tok} (h : OwnT w base v l) (hg : w.grownBy w' row) (hne : v.ownBlock = none ∨ v.ownBlock ≠ row) : OwnT w' base v l := World.ownsRow.kept h hg hne
theorem OwnT.le {w : World} {base base' : Nat} {v : Value} {l : List Tok} (h : OwnT w base v l) (hb : base' ≤ base) : OwnT w base' v l := Joins.ownsRow_le h hb
theorem OwnT.below {w w' : World} {base n : Nat} {v : Value} {l : List Tok} (h : OwnT w base v l) (hb : Below n w w') (hn : w.heap.size ≤ n) : OwnT w' base v l := by
  refine ⟨h.1, ?_⟩
  rcases h.2 with h | ⟨g, cap, cur, rfl, h1, h2, h3⟩
  · exact .inl h
  · have : g < w.heap.size := (Array.getElem?_eq_some_iff.1 h2).1
    exact .inr ⟨g, cap, cur, rfl, h1, (hb.block g (by omega)).trans h2, h3⟩
theorem info47 : (Tryz.prog.info? 52).map (fun i => (i.zero, i.size, i.bytes)) = some (some (.agg #[.int .i64 0, .int .i64 0, .int .i64 0, .int .i64 0, .string ⟨#[]⟩, .int .i64 0]), 6, 56) := by kernel_rfl
theorem info_parts {α : Type} {i : Option α} {β γ δ : Type} {f : α → β} {g : α → γ} {h : α → δ} {b : β} {c : γ} {d : δ} (e : i.map (fun x => (f x, g x, h x)) = some (b, c, d)) : ∃ x, i = some x ∧ f x = b ∧ g x = c ∧ h x = d := by
  cases i with
  | none => cases e
  | some x => simp at e; exact ⟨x, rfl, e.1, e.2.1, e.2.2⟩
theorem ownT_below {w w' : World} {base : Nat} {v : Value} {l : List Tok} (h : OwnT w base v l) (hb : base ≤ w.heap.size) (hg : w.grownBy w' v.ownBlock) : Below base w w' := (Below.refl _ w).grown hg hb (fun k hk => (World.ownsRow.lt h k hk).1)
/-- one token more behind a row of the call's own -/
theorem push_T {ops : Array Oper} {rest : List Oper} {o : Oper} {a : Act} {Q : Exit → Act → World → Prop} {w : World} (hgd : o.guard = none) (s x : Operand) (t : TypeId)
    (ho : o.op = .call { callee := .builtin .append, args := #[s, x], argTypes := #[t, t] }) (ht : Tryz.prog.underlying t = some (.slice 52))
    (base : Nat) (v : Value) (l : List Tok) (hs : a.eval s = v) (hown : OwnT w base v l) (g c : Nat) (y : Tok) (hx : a.eval x = .slice (some ⟨g, 0, none⟩) 1 c)
    (hy : TB w g y.k y.a y.l y.u y.t y.n) (hl : l.length + 1 ≤ 2199023255552) (hbase : base ≤ w.heap.size)
    (h : ∀ v' w', OwnT w' base v' (l ++ [y]) → w.grownBy w' v.ownBlock → Below base w w' → wpList Tryz.prog ops Q rest (a.put o.dst v') w') : wpList Tryz.prog ops Q (o :: rest) a w := by
  obtain ⟨i0, hi, hz0, hz1, hz2⟩ := info_parts info47
  obtain ⟨c0, c1, c2, c3, c4, c5⟩ := hy.cells
  refine wpList_append_own w hgd s x t ho base 52 i0 _ 6 56 ht hi hz0 hz1 hz2 rfl (by decide) v l.length (ft l) hs hown ⟨g, 0, none⟩ 1 c (ft [y]) hx rfl ?_ (ft_one _) (by unfold maxLen; omega) (by omega) hbase (fun v' w' h2 h3 _ => h v' w' ?_ h3 (ownT_below hown hbase h3))
  · intro j u hj
    match j, hj with
    | 0, hj => simp [ft, tok1] at hj; subst hj; exact c0
    | 1, hj => simp [ft, tok1] at hj; subst hj; exact c1
    | 2, hj => simp [ft, tok1] at hj; subst hj; exact c2
    | 3, hj => simp [ft, tok1] at hj; subst hj; exact c3
    | 4, hj => simp [ft, tok1] at hj; subst hj; exact c4
    | 5, hj => simp [ft, tok1] at hj; subst hj; exact c5
  · unfold OwnT
    rw [ft_append, List.length_append]
    exact h2
def FB (W : World) (B : Nat) (a e : Int) : Prop := W.heap[B]? = some (.cells #[.int .i64 a, .int .i64 e] 32 (0, 0))
theorem FB.lt {W : World} {B : Nat} {a e : Int} (h : FB W B a e) : B < W.heap.size := (Array.getElem?_eq_some_iff.1 h).1
theorem FB.below {W W' : World} {B m : Nat} {a e : Int} (h : FB W B a e) (hb : Below m W W') (hm : B < m) : FB W' B a e := (hb.block B hm).trans h
theorem FB.cells {W : World} {B : Nat} {a e : Int} (h : FB W B a e) : W.cell? ⟨B, 0, none⟩ = some (.int .i64 a) ∧ W.cell? ⟨B, 1, none⟩ = some (.int .i64 e) ∧ W.frozen? ⟨B, 0, none⟩ = false ∧ W.frozen? ⟨B, 1, none⟩ = false := by
  simp [World.cell?, World.frozen?, show W.heap[B]? = _ from h]
theorem FB.allocs {W : World} {B : Nat} {a e : Int} (h : FB W B a e) (o : Obj) : FB (W.alloc o) B a e := (Below.heap_alloc _ _ _ h.lt).trans h
theorem grown_setB (W : World) (b j : Nat) (v : Value) : W.grownBy (W.setCell ⟨b, j, none⟩ v) (some b) :=
  ⟨rfl, rfl, rfl, by simp, fun k _ hk => by
    show (W.heap.modify b _)[k]? = _
    rw [Array.getElem?_modify, if_neg (fun e => hk (by rw [e]))]⟩
theorem ownT_apart {W : World} {B : Nat} {v : Value} {l : List Tok} (h : OwnT W (B + 1) v l) : v.ownBlock = none ∨ v.ownBlock ≠ some B := by
  cases e : v.ownBlock with
  | none => exact .inl rfl
  | some k => exact .inr (fun e2 => by have e3 := Option.some.inj e2; have := (World.ownsRow.lt h k e).1; omega)
theorem formT {w : World} {b : Nat} {v : Value} {l : List Tok} (h : OwnT w b v l) : ∃ A c, v = .slice A l.length c := by
  rcases h.2 with ⟨e, h0⟩ | ⟨g, cap, cur, e, _⟩
  · subst e; exact ⟨none, 0, by rw [h0]⟩
  · exact ⟨_, _, e⟩
theorem FB.new (W : World) (a e : Int) : FB (W.alloc (.cells #[.int .i64 a, .int .i64 e] 32)) W.heap.size a e := World.alloc_heap_new _ _
theorem FB.set {W : World} {B : Nat} {a e : Int} (h : FB W B a e) (a' e' : Int) : FB ((W.setCell ⟨B, 0, none⟩ (.int .i64 a')).setCell ⟨B, 1, none⟩ (.int .i64 e')) B a' e' := by
  have := cells_setS (j := 1) (u := .int .i64 e') (cells_setS (j := 0) (u := .int .i64 a') h)
  simpa [FB] using this
end Go.Proofs
namespace Go.Proofs
open Go.RowKit Go.Shelf

/-- an item -/
inductive It where
  | mk (k u : Int) (t : ByteArray) (ps : List It) (lo hi : Int) (nt : Bool) (key : Int)
/-- a line -/
structure Ln where
  (k a : Int) (t : ByteArray) (bg en : Bool) (ante key post res : List It) (cur : Int)
/-- what is read, and what is left; or a fault -/
inductive Res (α : Type) where
  | ok (x : α) (r : List Tok)
  | no (a c : Int)
def Res.bind {α β : Type} (x : Res α) (f : α → List Tok → Res β) : Res β :=
  match x with
  | .ok y r => f y r
  | .no a c => .no a c
def byteAt (t : ByteArray) (i : Nat) : Int := ((t.data.getD i 0).toNat : Int)
def which (t : Tok) : Int := if t.k = 2 then byteAt t.t 0 else t.k
def nxt : List Tok → Int
  | [] => 0
  | t :: _ => which t
def atOf (e : Int) : List Tok → Int
  | [] => e
  | t :: _ => t.a
def begun (n : Int) : Nat := if n = 1 then 1 else if n = 36 then 2 else if n = 58 then 3 else if n = 17 then 4 else if n = 18 then 5 else if n = 3 then 7 else 0
def bareN (t : Tok) : ByteArray := if which t = 58 then t.t.extract 1 (t.t.size - 1) else t.t.extract 1 t.t.size
def passT (n : Int) (ts : List Tok) : Bool × List Tok := if nxt ts = n then (true, ts.tail) else (false, ts)
def wantT (e n : Int) (ts : List Tok) : Res Unit := if nxt ts = n then .ok () ts.tail else .no (atOf e ts) 50
def isRng (lo hi : Int) : Bool := decide (lo ≤ hi) && (decide (1114111 < lo) == decide (1114111 < hi))
def upToT (e : Int) (f : Tok) : List Tok → Res It
  | [] => .no e 50
  | t :: r => if which t = 1 then (if isRng f.u t.u then .ok (.mk 6 0 ⟨#[]⟩ [] f.u t.u false 0) r else .no f.a 51) else .no t.a 50
/-- the next items, as many as may stand there: d more -/
def rowT (e : Int) (may : Nat) (item : List Tok → Res It) : Nat → List Tok → Res (List It)
  | 0, ts => if may.testBit (begun (nxt ts)) then .no (atOf e ts) 52 else .ok [] ts
  | d + 1, ts => if may.testBit (begun (nxt ts)) then (item ts).bind fun x r => (rowT e may item d r).bind fun xs r2 => .ok (x :: xs) r2 else .ok [] ts
/-- an item's rest, behind its first token -/
def restT (e : Int) (may : Nat) (sets : List Tok → Res (List It)) (pairs : List Tok → Res It) (t : Tok) (r : List Tok) : Res It :=
  match begun (which t) with
  | 1 => if may.testBit 6 && (nxt r == 20) then upToT e t r.tail else .ok (.mk 1 t.u ⟨#[]⟩ [] 0 0 false 0) r
  | 2 => .ok (.mk 2 0 (bareN t) [] 0 0 false 0) r
  | 3 => .ok (.mk 3 0 (bareN t) [] 0 0 false 0) r
  | 4 => .ok (.mk 4 0 ⟨#[]⟩ [] 0 0 false 0) r
  | 5 => (sets (passT 15 r).2).bind fun ps r2 => (wantT e 19 r2).bind fun _ r3 => .ok (.mk 5 0 ⟨#[]⟩ ps 0 0 (passT 15 r).1 0) r3
  | _ => if nxt r = 22 then (pairs r.tail).bind fun x r2 => .ok (.mk 8 0 ⟨#[]⟩ [x] 0 0 false t.n) r2 else .ok (.mk 7 0 ⟨#[]⟩ [] 0 0 false t.n) r
def itemT (e : Int) (may : Nat) (sets : List Tok → Res (List It)) (pairs : List Tok → Res It) : List Tok → Res It
  | [] => .no e 50
  | t :: r => if may.testBit (begun (which t)) then restT e may sets pairs t r else .no t.a 50
def noRow : List Tok → Res (List It) := fun _ => .no 0 0
def noItem : List Tok → Res It := fun _ => .no 0 0
def partT (e : Int) : List Tok → Res It := itemT e 78 noRow noItem
def partsT (e : Int) : List Tok → Res (List It) := rowT e 78 (partT e) 512
/-- an item of a rule's sides (62), of a pair (60) -/
def sideT (e : Int) (may : Nat) : List Tok → Res It := itemT e may (partsT e) noItem
def pieceT (e : Int) : List Tok → Res It := itemT e 386 noRow (sideT e 60)
def sidesT (e : Int) : List Tok → Res (List It) := rowT e 62 (sideT e 62) 512
def resultT (e : Int) (d : Nat) : List Tok → Res (List It) := rowT e 386 (pieceT e) d
def postT (e : Int) (ts : List Tok) : Res (List It × Bool) :=
  if nxt ts = 13 then (sidesT e ts.tail).bind fun po r => .ok (po, (passT 16 r).1) (passT 16 r).2 else .ok ([], false) ts
def tailT (e : Int) (ts : List Tok) : Res (List It × Int) :=
  (resultT e 512 ts).bind fun x r => if nxt r = 14 then (resultT e (512 - x.length) r.tail).bind fun y r2 => .ok (x ++ y, (x.length : Int)) r2 else .ok (x, (x.length : Int)) r
def anteT (e : Int) (bg : Bool) (x : List It) (ts : List Tok) : Res (List It × List It) :=
  if bg || (nxt ts == 12) then (wantT e 12 ts).bind fun _ r => (sidesT e r).bind fun y r2 => .ok (x, y) r2 else .ok ([], x) ts
def ruleT (e : Int) (ts : List Tok) : Res Ln :=
  (sidesT e (passT 15 ts).2).bind fun x r1 => (anteT e (passT 15 ts).1 x r1).bind fun ak r2 => (postT e r2).bind fun pe r3 => (wantT e 10 r3).bind fun _ r4 => (tailT e r4).bind fun rc r5 =>
    .ok ⟨2, 0, ⟨#[]⟩, (passT 15 ts).1, pe.2, ak.1, ak.2, pe.1, rc.1, rc.2⟩ r5
def defT (e : Int) (t : Tok) (ts : List Tok) : Res Ln :=
  (wantT e 21 ts).bind fun _ r => (sideT e 62 r).bind fun x r2 => .ok ⟨1, 0, bareN t, false, false, [], [x], [], [], 0⟩ r2
def someT (e : Int) (ts : List Tok) : Res Ln :=
  match ts with
  | [] => ruleT e []
  | t :: r => if which t = 116 then .ok ⟨3, 0, ⟨#[]⟩, false, false, [], [], [], [], 0⟩ r else if which t = 36 ∧ nxt r = 21 then defT e t r else ruleT e (t :: r)
def lineT (e : Int) (ts : List Tok) : Res Ln :=
  (someT e ts).bind fun l r => (wantT e 11 r).bind fun _ r2 => .ok { l with a := atOf e ts } r2
/-- all lines: f bounds how many -/
def linesT (e : Int) : Nat → List Tok → Res (List Ln)
  | 0, ts => .ok [] ts
  | f + 1, ts => if nxt ts = 0 then .ok [] ts else (lineT e ts).bind fun l r => (linesT e f r).bind fun ls r2 => .ok (l :: ls) r2
end Go.Proofs
