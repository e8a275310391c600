/-
  Scan: the tokens of a text, one behind the other.
-/
import Derived.Shelf.Abstract
import Derived.Shelf.RegionOpen
import Derived.WalkKit
import Derived.WalkSpells
import Derived.WalkLawsBesides
import Derived.BigQuiet
import Derived.Deep.QuietTactic
import Derived.Deep.LoopGhost
import Derived.Lib.OthersKept
import Derived.ScopeJumps
import Derived.WalkMore
import Derived.Maps.AppendAt
import Derived.Lib.SmallJoins
import Derived.Test.YthjjkenmlkekbaaDoorXe
namespace Go.Proofs
open Go.RowKit Go.Shelf

set_option maxRecDepth 100000
attribute [local go_sem] Oper.semAt_some


structure Tok where
  (k a l u : Int) (t : ByteArray) (n : Int)
def tok1 (x : Tok) : List Value := [.int .i64 x.k, .int .i64 x.a, .int .i64 x.l, .int .i64 x.u, .string x.t, .int .i64 x.n]
def ft (l : List Tok) : List Value := l.flatMap tok1
theorem ft_append (l m : List Tok) : ft (l ++ m) = ft l ++ ft m := by simp [ft]
theorem ft_length (l : List Tok) : (ft l).length = l.length * 6 := by
  induction l with
  | nil => rfl
  | cons a l ih => simp [ft, tok1] at ih ⊢; omega
theorem ft_one (l : List Tok) : ∀ u ∈ ft l, u.oneCell' = true := by
  intro u hu
  simp only [ft, List.mem_flatMap] at hu
  obtain ⟨x, _, hx⟩ := hu
  simp only [tok1, List.mem_cons, List.not_mem_nil, or_false] at hx
  rcases hx with rfl | rfl | rfl | rfl | rfl | rfl <;> rfl
/-- a row of the call's own -/
def OwnT (w : World) (base : Nat) (v : Value) (l : List Tok) : Prop := w.ownsRow base 34 6 v l.length (ft l)
theorem OwnT.nil (w : World) (base : Nat) : OwnT w base (.slice none 0 0) [] := World.ownsRow_nil _ _ _ _
theorem OwnT.alloc {w : World} {base : Nat} {v : Value} {l : List Tok} (h : OwnT w base v l) (o : Obj) : OwnT (w.alloc o) base v l := World.ownsRow.alloc h o
theorem OwnT.kept {w w' : World} {row : Option Nat} {base : Nat} {v : Value} {l : List Tok} (h : OwnT w base v l) (hg : w.grownBy w' row) (hne : v.ownBlock = none ∨ v.ownBlock ≠ row) : OwnT w' base v l := World.ownsRow.kept h hg hne
theorem OwnT.le {w : World} {base base' : Nat} {v : Value} {l : List Tok} (h : OwnT w base v l) (hb : base' ≤ base) : OwnT w base' v l := Joins.ownsRow_le h hb
theorem OwnT.below {w w' : World} {base n : Nat} {v : Value} {l : List Tok} (h : OwnT w base v l) (hb : Below n w w') (hn : w.heap.size ≤ n) : OwnT w' base v l := by
  refine ⟨h.1, ?_⟩
  rcases h.2 with h | ⟨g, cap, cur, rfl, h1, h2, h3⟩
  · exact .inl h
  · have : g < w.heap.size := (Array.getElem?_eq_some_iff.1 h2).1
    exact .inr ⟨g, cap, cur, rfl, h1, (hb.block g (by omega)).trans h2, h3⟩
theorem info34 : (Tryd.prog.info? 34).map (fun i => (i.zero, i.size, i.bytes)) = some (some (.agg #[.int .i64 0, .int .i64 0, .int .i64 0, .int .i64 0, .string ⟨#[]⟩, .int .i64 0]), 6, 56) := by kernel_rfl
theorem info_parts {α : Type} {i : Option α} {β γ δ : Type} {f : α → β} {g : α → γ} {h : α → δ} {b : β} {c : γ} {d : δ} (e : i.map (fun x => (f x, g x, h x)) = some (b, c, d)) : ∃ x, i = some x ∧ f x = b ∧ g x = c ∧ h x = d := by
  cases i with
  | none => cases e
  | some x => simp at e; exact ⟨x, rfl, e.1, e.2.1, e.2.2⟩
theorem ownT_below {w w' : World} {base : Nat} {v : Value} {l : List Tok} (h : OwnT w base v l) (hb : base ≤ w.heap.size) (hg : w.grownBy w' v.ownBlock) : Below base w w' := (Below.refl _ w).grown hg hb (fun k hk => (World.ownsRow.lt h k hk).1)
/-- one token more behind a row of the call's own -/
theorem push_T {ops : Array Oper} {rest : List Oper} {o : Oper} {a : Act} {Q : Exit → Act → World → Prop} {w : World} (hgd : o.guard = none) (s x : Operand) (t : TypeId)
    (ho : o.op = .call { callee := .builtin .append, args := #[s, x], argTypes := #[t, t] }) (ht : Tryd.prog.underlying t = some (.slice 34))
    (base : Nat) (v : Value) (l : List Tok) (hs : a.eval s = v) (hown : OwnT w base v l) (g c : Nat) (y : Tok) (hx : a.eval x = .slice (some ⟨g, 0, none⟩) 1 c)
    (hy : TB w g y.k y.a y.l y.u y.t y.n) (hl : l.length + 1 ≤ 2199023255552) (hbase : base ≤ w.heap.size)
    (h : ∀ v' w', OwnT w' base v' (l ++ [y]) → w.grownBy w' v.ownBlock → Below base w w' → wpList Tryd.prog ops Q rest (a.put o.dst v') w') : wpList Tryd.prog ops Q (o :: rest) a w := by
  obtain ⟨i0, hi, hz0, hz1, hz2⟩ := info_parts info34
  obtain ⟨c0, c1, c2, c3, c4, c5⟩ := hy.cells
  refine wpList_append_own w hgd s x t ho base 34 i0 _ 6 56 ht hi hz0 hz1 hz2 rfl (by decide) v l.length (ft l) hs hown ⟨g, 0, none⟩ 1 c (ft [y]) hx rfl ?_ (ft_one _) (by unfold maxLen; omega) (by omega) hbase (fun v' w' h2 h3 _ => h v' w' ?_ h3 (ownT_below hown hbase h3))
  · intro j u hj
    match j, hj with
    | 0, hj => simp [ft, tok1] at hj; subst hj; exact c0
    | 1, hj => simp [ft, tok1] at hj; subst hj; exact c1
    | 2, hj => simp [ft, tok1] at hj; subst hj; exact c2
    | 3, hj => simp [ft, tok1] at hj; subst hj; exact c3
    | 4, hj => simp [ft, tok1] at hj; subst hj; exact c4
    | 5, hj => simp [ft, tok1] at hj; subst hj; exact c5
  · unfold OwnT
    rw [ft_append, List.length_append]
    exact h2
/-- from a place on, the tokens toks are read; then the text ends (fe = 0), or a token at fa is refused by fe -/
inductive Run (s : ByteArray) : Nat → Bool → List Tok → Nat → Int → Prop
  | fin {p : Nat} {fresh : Bool} (h : p + pastN false (s.data.toList.drop p) = s.size) : Run s p fresh [] 0 0
  | bad {p : Nat} {fresh : Bool} {q : Nat} {e0 : Int} (hq : q = p + pastN false (s.data.toList.drop p)) (hlt : q < s.size) (hb : Tells 25 #[.string (s.extract q s.size), .bool fresh] 0 0 0 0 ⟨#[]⟩ 0 e0) (he : e0 ≠ 0) : Run s p fresh [] q e0
  | step {p : Nat} {fresh : Bool} {q : Nat} {k u : Int} {l : Nat} {t : ByteArray} {n : Int} {toks : List Tok} {fa : Nat} {fe : Int} (hq : q = p + pastN false (s.data.toList.drop p)) (hlt : q < s.size) (hb : Tells 25 #[.string (s.extract q s.size), .bool fresh] k 0 l u t n 0) (h0 : 0 < l) (hl : q + l ≤ s.size) (hr : Run s (q + l) (decide (k = 11)) toks fa fe) : Run s p fresh (⟨k, q, l, u, t, n⟩ :: toks) fa fe
end Go.Proofs
