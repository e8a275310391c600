/-
  Items in memory: rows of them, with rows of parts in blocks of their own.
-/
import Derived.Shelf.Abstract
import Derived.WalkKit
import Derived.WalkSpells
import Derived.WalkLawsBesides
import Derived.Lib.OthersKept
import Derived.Maps.AppendAt
import Derived.Lib.SmallJoins
import Derived.Test.YtknaoahokopplaaGreatDoorMgmb
namespace Go.Proofs
open Go.RowKit Go.Shelf

set_option maxRecDepth 100000
attribute [local go_sem] Oper.semAt_some

def All2 {α β : Type} (R : α → β → Prop) : List α → List β → Prop
  | [], [] => True
  | a :: l, b :: m => R a b ∧ All2 R l m
  | _, _ => False
theorem All2.mono {α β : Type} {R S : α → β → Prop} (h : ∀ a b, R a b → S a b) : ∀ {l : List α} {m : List β}, All2 R l m → All2 S l m
  | [], [], _ => trivial
  | _ :: _, _ :: _, k => ⟨h _ _ k.1, All2.mono h k.2⟩
  | [], _ :: _, k => k.elim
  | _ :: _, [], k => k.elim
theorem All2.length {α β : Type} {R : α → β → Prop} : ∀ {l : List α} {m : List β}, All2 R l m → l.length = m.length
  | [], [], _ => rfl
  | _ :: _, _ :: _, k => by simp [All2.length k.2]
  | [], _ :: _, k => k.elim
  | _ :: _, [], k => k.elim
theorem All2.append {α β : Type} {R : α → β → Prop} : ∀ {l l2 : List α} {m m2 : List β}, All2 R l m → All2 R l2 m2 → All2 R (l ++ l2) (m ++ m2)
  | [], _, [], _, _, k => k
  | _ :: _, _, _ :: _, _, h, k => ⟨h.1, All2.append h.2 k⟩
  | [], _, _ :: _, _, h, _ => h.elim
  | _ :: _, _, [], _, h, _ => h.elim

/-- what has changed: the blocks R and y alone; what is new lies behind -/
structure Mv (w w' : World) (R : Nat) (y : Option Nat) : Prop where
  os : w'.os = w.os
  tape : w'.tape = w.tape
  output : w'.output = w.output
  size : w.heap.size ≤ w'.heap.size
  block : ∀ k, k < w.heap.size → k ≠ R → some k ≠ y → w'.heap[k]? = w.heap[k]?
theorem Mv.refl (w : World) (R : Nat) (y : Option Nat) : Mv w w R y := ⟨rfl, rfl, rfl, Nat.le_refl _, fun _ _ _ _ => rfl⟩
theorem Mv.trans {a b c : World} {R : Nat} {y z : Option Nat} (h : Mv a b R y) (k : Mv b c R z) (hz : z = y ∨ ∀ g, z = some g → a.heap.size ≤ g) : Mv a c R y :=
  ⟨k.os.trans h.os, k.tape.trans h.tape, k.output.trans h.output, Nat.le_trans h.size k.size, fun i hi hR hy => (k.block i (Nat.lt_of_lt_of_le hi h.size) hR (fun e => by
    rcases hz with hz | hz
    · exact hy (by rw [← hz]; exact e)
    · have := hz i e.symm; omega)).trans (h.block i hi hR hy)⟩
theorem Mv.and {a b c : World} {R : Nat} {y : Option Nat} (h : Mv a b R y) (k : Mv b c R none) : Mv a c R y := h.trans k (.inr (fun g e => by cases e))
theorem Mv.of_below {a b : World} {R : Nat} {y : Option Nat} (h : Below a.heap.size a b) : Mv a b R y := ⟨h.os, h.tape, h.output, h.size, fun i hi _ _ => h.block i hi⟩
theorem Mv.of_grown {a b : World} {R : Nat} {y : Option Nat} (h : a.grownBy b y) : Mv a b R y := ⟨h.os, h.tape, h.output, h.size, fun i hi _ hy => h.block i hi hy⟩
theorem Mv.alloc {a b : World} {R : Nat} {y : Option Nat} (h : Mv a b R y) (o : Obj) : Mv a (b.alloc o) R y := h.trans (z := none) (.of_below ((Below.refl _ _).alloc (Nat.le_refl _) _)) (.inr (fun g e => by cases e))
theorem Mv.set {a b : World} {R : Nat} {y : Option Nat} (h : Mv a b R y) {B : Nat} (hB : a.heap.size ≤ B ∨ B = R) (j : Nat) (v : Value) : Mv a (b.setCell ⟨B, j, none⟩ v) R y :=
  ⟨h.os, h.tape, h.output, by simpa using h.size, fun i hi hR hy => by
    refine Eq.trans ?_ (h.block i hi hR hy)
    show (b.heap.modify B _)[i]? = _
    rw [Array.getElem?_modify, if_neg (fun e => by rcases hB with hB | hB <;> omega)]⟩
theorem Mv.below {a b : World} {R n : Nat} {y : Option Nat} (h : Mv a b R y) (hn : n ≤ a.heap.size) (hR : n ≤ R) (hy : ∀ g, y = some g → n ≤ g) : Below n a b :=
  ⟨h.os, h.tape, h.output, h.size, fun i hi => h.block i (by omega) (by omega) (fun e => by have := hy i e.symm; omega)⟩

/-- an item's cells -/
structure MI where
  (k u : Int) (t : ByteArray) (A : Option Addr) (n c : Nat) (lo hi : Int) (nt : Bool) (key : Int)
def mi1 (x : MI) : List Value := [.int .i64 x.k, .int .i64 x.u, .string x.t, .slice x.A x.n x.c, .int .i64 x.lo, .int .i64 x.hi, .bool x.nt, .int .i64 x.key]
abbrev mia (x : MI) : Value := .agg #[.int .i64 x.k, .int .i64 x.u, .string x.t, .slice x.A x.n x.c, .int .i64 x.lo, .int .i64 x.hi, .bool x.nt, .int .i64 x.key]
def fi (l : List MI) : List Value := l.flatMap mi1
theorem fi_append (l m : List MI) : fi (l ++ m) = fi l ++ fi m := by simp [fi]
theorem fi_one (l : List MI) : ∀ u ∈ fi l, u.oneCell' = true := by
  intro u hu
  simp only [fi, List.mem_flatMap] at hu
  obtain ⟨x, _, hx⟩ := hu
  simp only [mi1, List.mem_cons, List.not_mem_nil, or_false] at hx
  rcases hx with rfl | rfl | rfl | rfl | rfl | rfl | rfl | rfl <;> rfl
def RowI (w : World) (b : Nat) (x : Option Nat) (A : Option Addr) (n c : Nat) (ms : List MI) : Prop :=
  n = ms.length ∧ ((A = none ∧ n = 0 ∧ c = 0) ∨ ∃ g cur, A = some ⟨g, 0, none⟩ ∧ b ≤ g ∧ some g ≠ x ∧ w.heap[g]? = some (.cells cur 58 (0, 0)) ∧ n ≤ c ∧ c ≤ maxLen ∧ cur.size = c * 8 ∧ cur.toList.take (n * 8) = fi ms)
def Plain (m : MI) : It → Prop
  | .mk k u t _ lo hi nt key => m.k = k ∧ m.u = u ∧ m.t = t ∧ m.lo = lo ∧ m.hi = hi ∧ m.nt = nt ∧ m.key = key
def It.ps : It → List It
  | .mk _ _ _ ps _ _ _ _ => ps
/-- an item's cells mean it: its parts lie behind b, not in the block x -/
def DR : Nat → World → Nat → Option Nat → MI → It → Prop
  | 0, _, _, _, m, i => Plain m i ∧ i.ps = [] ∧ m.A = none ∧ m.n = 0 ∧ m.c = 0
  | d + 1, w, b, x, m, i => Plain m i ∧ ∃ ms, RowI w b x m.A m.n m.c ms ∧ All2 (DR d w b x) ms i.ps
/-- a row of items -/
def Rows (d : Nat) (w : World) (b : Nat) (x : Option Nat) (A : Option Addr) (n c : Nat) (l : List It) : Prop := ∃ ms, RowI w b x A n c ms ∧ All2 (DR d w b x) ms l
theorem RowI.step {w w' : World} {b b' : Nat} {x x' : Option Nat} {A : Option Addr} {n c : Nat} {ms : List MI} (h : RowI w b x A n c ms) (hb : b' ≤ b) (hx : x' = x ∨ x' = none ∨ ∀ g, x' = some g → w.heap.size ≤ g ∨ g < b)
    (hw : ∀ k, k < w.heap.size → b ≤ k → some k ≠ x → w'.heap[k]? = w.heap[k]?) : RowI w' b' x' A n c ms := by
  refine ⟨h.1, h.2.imp id ?_⟩
  rintro ⟨g, cur, rfl, h1, h2, h3, h4⟩
  have hlt := (Array.getElem?_eq_some_iff.1 h3).1
  refine ⟨g, cur, rfl, by omega, ?_, (hw g hlt h1 h2).trans h3, h4⟩
  rcases hx with rfl | rfl | hx
  · exact h2
  · intro e; cases e
  · intro e
    have := hx g e.symm
    omega
theorem DR.step {w w' : World} {b b' : Nat} {x x' : Option Nat} (hb : b' ≤ b) (hx : x' = x ∨ x' = none ∨ ∀ g, x' = some g → w.heap.size ≤ g ∨ g < b)
    (hw : ∀ k, k < w.heap.size → b ≤ k → some k ≠ x → w'.heap[k]? = w.heap[k]?) : ∀ {d : Nat} {m : MI} {i : It}, DR d w b x m i → DR d w' b' x' m i
  | 0, _, _, h => h
  | _ + 1, _, _, h => ⟨h.1, h.2.imp fun _ k => ⟨k.1.step hb hx hw, k.2.mono fun _ _ r => DR.step hb hx hw r⟩⟩
theorem Rows.step {w w' : World} {b b' : Nat} {x x' : Option Nat} (hb : b' ≤ b) (hx : x' = x ∨ x' = none ∨ ∀ g, x' = some g → w.heap.size ≤ g ∨ g < b)
    (hw : ∀ k, k < w.heap.size → b ≤ k → some k ≠ x → w'.heap[k]? = w.heap[k]?) {d : Nat} {A : Option Addr} {n c : Nat} {l : List It} (h : Rows d w b x A n c l) : Rows d w' b' x' A n c l :=
  h.imp fun _ k => ⟨k.1.step hb hx hw, k.2.mono fun _ _ r => DR.step hb hx hw r⟩
theorem DR.up {w : World} {b : Nat} {x : Option Nat} : ∀ {d : Nat} {m : MI} {i : It}, DR d w b x m i → DR (d + 1) w b x m i
  | 0, _, _, h => ⟨h.1, [], ⟨by rw [h.2.2.2.1]; rfl, .inl ⟨h.2.2.1, h.2.2.2.1, h.2.2.2.2⟩⟩, by rw [h.2.1]; trivial⟩
  | _ + 1, _, _, h => ⟨h.1, h.2.imp fun _ k => ⟨k.1, k.2.mono fun _ _ r => DR.up r⟩⟩
theorem Rows.up {d : Nat} {w : World} {b : Nat} {x : Option Nat} {A : Option Addr} {n c : Nat} {l : List It} (h : Rows d w b x A n c l) : Rows (d + 1) w b x A n c l := h.imp fun _ k => ⟨k.1, k.2.mono fun _ _ r => r.up⟩
theorem Rows.nil (d : Nat) (w : World) (b : Nat) (x : Option Nat) : Rows d w b x none 0 0 [] := ⟨[], ⟨rfl, .inl ⟨rfl, rfl, rfl⟩⟩, trivial⟩
/-- what Mv leaves -/
theorem Mv.keeps {w w' : World} {R b : Nat} {x y : Option Nat} (h : Mv w w' R y) (hR : R < b) (hy : y = none ∨ y = x ∨ ∀ g, y = some g → g < b) : ∀ k, k < w.heap.size → b ≤ k → some k ≠ x → w'.heap[k]? = w.heap[k]? :=
  fun k h1 h2 h3 => h.block k h1 (by omega) (fun e => by
    rcases hy with hy | hy | hy
    · rw [hy] at e; cases e
    · exact h3 (by rw [← hy]; exact e)
    · have := hy k e.symm; omega)
/-- a row that grows: of the call's own, its items' parts lie elsewhere -/
def OwnI (d : Nat) (w : World) (b : Nat) (v : Value) (l : List It) : Prop := ∃ ms, w.ownsRow b 58 8 v ms.length (fi ms) ∧ All2 (DR d w b v.ownBlock) ms l
theorem OwnI.nil (d : Nat) (w : World) (b : Nat) : OwnI d w b (.slice none 0 0) [] := ⟨[], World.ownsRow_nil _ _ _ _, trivial⟩
theorem OwnI.form {d : Nat} {w : World} {b : Nat} {v : Value} {l : List It} (h : OwnI d w b v l) : ∃ A c, v = .slice A l.length c := by
  obtain ⟨ms, h1, h2⟩ := h
  rcases h1.2 with ⟨e, h0⟩ | ⟨g, cap, cur, e, _⟩
  · subst e; exact ⟨none, 0, by rw [← h2.length, h0]⟩
  · exact ⟨_, _, by rw [← h2.length]; exact e⟩
theorem OwnI.lt {d : Nat} {w : World} {b : Nat} {v : Value} {l : List It} (h : OwnI d w b v l) : ∀ g, v.ownBlock = some g → b ≤ g ∧ g < w.heap.size := by
  obtain ⟨ms, h1, h2⟩ := h
  exact fun g e => World.ownsRow.lt h1 g e
theorem OwnI.step {w w' : World} {b : Nat} {v : Value} {d : Nat} {l : List It} (h : OwnI d w b v l) (hw : ∀ k, k < w.heap.size → b ≤ k → w'.heap[k]? = w.heap[k]?) : OwnI d w' b v l := by
  obtain ⟨ms, h1, h2⟩ := h
  refine ⟨ms, ⟨h1.1, h1.2.imp id ?_⟩, h2.mono fun _ _ r => r.step (Nat.le_refl _) (.inl rfl) (fun k k1 k2 _ => hw k k1 k2)⟩
  rintro ⟨g, cap, cur, rfl, k1, k2, k3⟩
  exact ⟨g, cap, cur, rfl, k1, (hw g (Array.getElem?_eq_some_iff.1 k2).1 k1).trans k2, k3⟩
theorem OwnI.rows {d : Nat} {w : World} {b : Nat} {A : Option Addr} {n c : Nat} {l : List It} (h : OwnI d w b (.slice A n c) l) : Rows d w b none A n c l := by
  obtain ⟨ms, h1, h2⟩ := h
  refine ⟨ms, ?_, h2.mono fun _ _ r => r.step (Nat.le_refl _) (.inr (.inl rfl)) (fun k _ _ _ => rfl)⟩
  rcases h1.2 with ⟨e, h0⟩ | ⟨g, cap, cur, e, k1, k2, k3, k4, k5, k6⟩
  · cases e
    exact ⟨h0.symm, .inl ⟨rfl, rfl, rfl⟩⟩
  · cases e
    exact ⟨rfl, .inr ⟨g, cur, rfl, k1, (fun e => by cases e), k2, k3, k4, k5, k6⟩⟩
theorem info50 : (Tryz.prog.info? 58).map (fun i => (i.zero, i.size, i.bytes)) = some (some (.agg #[.int .i64 0, .int .i64 0, .string ⟨#[]⟩, .slice none 0 0, .int .i64 0, .int .i64 0, .bool false, .int .i64 0]), 8, 88) := by kernel_rfl
theorem add_zero_at' (g j : Nat) : (⟨g, 0, none⟩ : Addr).add j = ⟨g, j, none⟩ := by
  unfold Addr.add
  by_cases h : j = 0
  · subst h; rfl
  · simp [h]
/-- one item more -/
theorem push_I {ops : Array Oper} {rest : List Oper} {o : Oper} {a : Act} {Q : Exit → Act → World → Prop} {w : World} (hgd : o.guard = none) (s x : Operand) (t : TypeId)
    (ho : o.op = .call { callee := .builtin .append, args := #[s, x], argTypes := #[t, t] }) (ht : Tryz.prog.underlying t = some (.slice 58))
    (d b : Nat) (v : Value) (l : List It) (hs : a.eval s = v) (hown : OwnI d w b v l) (g c : Nat) (m : MI) (i : It) (hx : a.eval x = .slice (some ⟨g, 0, none⟩) 1 c)
    (hy : w.heap[g]? = some (.cells (mi1 m).toArray 58 (0, 0))) (hm : DR d w b v.ownBlock m i) (hl : l.length + 1 ≤ 1099511627776) (hbase : b ≤ w.heap.size)
    (h : ∀ A c' w', OwnI d w' b (.slice A (l.length + 1) c') (l ++ [i]) → w.grownBy w' v.ownBlock → ((Value.slice A (l.length + 1) c').ownBlock = v.ownBlock ∨ (Value.slice A (l.length + 1) c').ownBlock = some w.heap.size) → wpList Tryz.prog ops Q rest (a.put o.dst (.slice A (l.length + 1) c')) w') : wpList Tryz.prog ops Q (o :: rest) a w := by
  obtain ⟨i0, hi, hz0, hz1, hz2⟩ := info_parts info50
  obtain ⟨ms, h1, h2⟩ := hown
  have hlen := h2.length
  refine wpList_append_own_at w hgd s x t ho b 58 i0 _ 8 88 ht hi hz0 hz1 hz2 rfl (by decide) v ms.length (fi ms) hs h1 ⟨g, 0, none⟩ 1 c (fi [m]) hx rfl ?_ (fi_one _) (by unfold maxLen; omega) (by omega) hbase (fun v' w' k2 k3 _ k5 => ?_)
  · intro j u hj
    have e : (fi [m]) = mi1 m := by simp [fi]
    rw [e] at hj
    rw [add_zero_at']
    simp only [World.cell?, hy]
    simpa using hj
  · have hf : ∃ A c', v' = .slice A (l.length + 1) c' := by
      rcases k2.2 with ⟨e, h0⟩ | ⟨g, cap, cur, e, _⟩
      · omega
      · exact ⟨_, _, by rw [← hlen]; exact e⟩
    obtain ⟨A, c', rfl⟩ := hf
    refine h A c' w' ⟨ms ++ [m], ?_, ?_⟩ k3 k5
    · rw [fi_append, List.length_append]
      exact k2
    · have hst : ∀ k, k < w.heap.size → b ≤ k → some k ≠ v.ownBlock → w'.heap[k]? = w.heap[k]? := fun k q1 _ q3 => k3.block k q1 q3
      have hx' : (Value.slice A (l.length + 1) c').ownBlock = v.ownBlock ∨ (Value.slice A (l.length + 1) c').ownBlock = none ∨ ∀ g, (Value.slice A (l.length + 1) c').ownBlock = some g → w.heap.size ≤ g ∨ g < b := by
        rcases k5 with e | e
        · exact .inl e
        · exact .inr (.inr fun g e2 => .inl (by rw [e] at e2; have := Option.some.inj e2; omega))
      exact (h2.mono fun _ _ r => r.step (Nat.le_refl _) hx' hst).append ⟨hm.step (Nat.le_refl _) hx' hst, trivial⟩
end Go.Proofs
