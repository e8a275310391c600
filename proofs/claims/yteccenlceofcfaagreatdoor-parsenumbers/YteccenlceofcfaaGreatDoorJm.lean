/-
  What is left is never more than there was; a line takes one token at least. Rows of lines in memory.
-/
import Derived.Shelf.Abstract
import Derived.WalkKit
import Derived.WalkSpells
import Derived.WalkLawsBesides
import Derived.Lib.OthersKept
import Derived.Maps.AppendAt
import Derived.Lib.SmallJoins
import Derived.Test.YteccenlceofcfaaGreatDoorJj
namespace Go.Proofs
open Go.RowKit Go.Shelf

set_option maxRecDepth 100000
attribute [local go_sem] Oper.semAt_some

/-- what is left is no more than n -/
def Le {α : Type} (s : Res α) (n : Nat) : Prop := ∀ x r, s = .ok x r → r.length ≤ n
theorem Le.no {α : Type} (a c : Int) (n : Nat) : Le (.no a c : Res α) n := fun _ _ e => by cases e
theorem Le.ok {α : Type} {x : α} {r : List Tok} {n : Nat} (h : r.length ≤ n) : Le (.ok x r) n := fun _ _ e => by cases e; exact h
theorem Le.bind {α β : Type} {s : Res α} {f : α → List Tok → Res β} {n m : Nat} (h : Le s m) (hf : ∀ x r, r.length ≤ m → Le (f x r) n) : Le (s.bind f) n := by
  cases s with
  | no a c => exact Le.no _ _ _
  | ok x r => exact hf x r (h x r rfl)
theorem Le.mono {α : Type} {s : Res α} {n m : Nat} (h : Le s n) (hm : n ≤ m) : Le s m := fun x r e => Nat.le_trans (h x r e) hm
theorem pass_le (n : Int) (ts : List Tok) : (passT n ts).2.length ≤ ts.length := by
  unfold passT
  split
  · simp
  · simp
theorem want_le (e n : Int) (ts : List Tok) : Le (wantT e n ts) (ts.length - 1) := by
  unfold wantT
  split
  · exact Le.ok (by simp)
  · exact Le.no _ _ _
theorem upTo_le (e : Int) (f : Tok) (ts : List Tok) : Le (upToT e f ts) ts.length := by
  cases ts with
  | nil => exact Le.no _ _ _
  | cons t r =>
    simp only [upToT]
    split
    · split
      · exact Le.ok (by simp)
      · exact Le.no _ _ _
    · exact Le.no _ _ _
theorem row_le (e : Int) (may : Nat) (it : List Tok → Res It) (hit : ∀ ts, Le (it ts) ts.length) : ∀ (n : Nat) (ts : List Tok), Le (rowT e may it n ts) ts.length
  | 0, ts => by
    unfold rowT
    split
    · exact Le.no _ _ _
    · exact Le.ok (Nat.le_refl _)
  | n + 1, ts => by
    unfold rowT
    split
    · exact (hit ts).bind fun x r h => (row_le e may it hit n r).bind fun xs r2 h2 => Le.ok (Nat.le_trans h2 h)
    · exact Le.ok (Nat.le_refl _)
theorem item_le (e : Int) (may : Nat) (sets : List Tok → Res (List It)) (pairs : List Tok → Res It) (h1 : ∀ ts, Le (sets ts) ts.length) (h2 : ∀ ts, Le (pairs ts) ts.length) (ts : List Tok) : Le (itemT e may sets pairs ts) ts.length := by
  cases ts with
  | nil => exact Le.no _ _ _
  | cons t r =>
    simp only [itemT]
    split
    · unfold restT
      split
      · split
        · exact (upTo_le e t r.tail).mono (by simp; omega)
        · exact Le.ok (by simp)
      · exact Le.ok (by simp)
      · exact Le.ok (by simp)
      · exact Le.ok (by simp)
      · exact (h1 _).bind fun ps r2 k => (want_le e 19 r2).bind fun _ r3 k3 => Le.ok (by have := pass_le 15 r; simp; omega)
      · split
        · exact (h2 _).bind fun x r2 k => Le.ok (by simp at k ⊢; omega)
        · exact Le.ok (by simp)
    · exact Le.no _ _ _
theorem part_le (e : Int) (ts : List Tok) : Le (partT e ts) ts.length := item_le e 78 noRow noItem (fun _ => Le.no _ _ _) (fun _ => Le.no _ _ _) ts
theorem side_le (e : Int) (may : Nat) (ts : List Tok) : Le (sideT e may ts) ts.length := item_le e may (partsT e) noItem (row_le e 78 (partT e) (part_le e) 512) (fun _ => Le.no _ _ _) ts
theorem piece_le (e : Int) (ts : List Tok) : Le (pieceT e ts) ts.length := item_le e 386 noRow (sideT e 60) (fun _ => Le.no _ _ _) (side_le e 60) ts
theorem sides_le (e : Int) (ts : List Tok) : Le (sidesT e ts) ts.length := row_le e 62 (sideT e 62) (side_le e 62) 512 ts
theorem result_le (e : Int) (d : Nat) (ts : List Tok) : Le (resultT e d ts) ts.length := row_le e 386 (pieceT e) (piece_le e) d ts
theorem rule_le (e : Int) (ts : List Tok) : Le (ruleT e ts) ts.length := by
  unfold ruleT
  refine (sides_le e _).bind fun x r1 h1 => ?_
  have h0 := pass_le 15 ts
  refine Le.bind (m := r1.length) ?_ fun ak r2 h2 => Le.bind (m := r2.length) ?_ fun pe r3 h3 => (want_le e 10 r3).bind fun _ r4 h4 => Le.bind (m := r4.length) ?_ fun rc r5 h5 => Le.ok (by omega)
  · unfold anteT
    split
    · exact (want_le e 12 r1).bind fun _ r h => (sides_le e r).bind fun y r2 h2 => Le.ok (by omega)
    · exact Le.ok (Nat.le_refl _)
  · unfold postT
    split
    · exact (sides_le e r2.tail).bind fun po r h => Le.ok (by have := pass_le 16 r; simp at h; omega)
    · exact Le.ok (Nat.le_refl _)
  · unfold tailT
    refine (result_le e 512 r4).bind fun x r h => ?_
    split
    · exact (result_le e _ r.tail).bind fun y r2 h2 => Le.ok (by simp at h2; omega)
    · exact Le.ok h
theorem def_le (e : Int) (t : Tok) (ts : List Tok) : Le (defT e t ts) ts.length := by
  unfold defT
  exact (want_le e 21 ts).bind fun _ r h => (side_le e 62 r).bind fun x r2 h2 => Le.ok (by omega)
theorem some_le (e : Int) (ts : List Tok) : Le (someT e ts) ts.length := by
  unfold someT
  split
  · exact rule_le e []
  · split
    · exact Le.ok (by simp)
    · split
      · exact (def_le e _ _).mono (by simp)
      · exact rule_le e _
theorem line_le {e : Int} {ts : List Tok} {l : Ln} {r : List Tok} (h : lineT e ts = .ok l r) : r.length + 1 ≤ ts.length := by
  unfold lineT at h
  cases hs : someT e ts with
  | no a c => rw [hs] at h; cases h
  | ok l1 r1 =>
    have h1 := some_le e ts l1 r1 hs
    rw [hs] at h
    simp only [Res.bind] at h
    cases hw : wantT e 11 r1 with
    | no a c => rw [hw] at h; cases h
    | ok u r2 =>
      rw [hw] at h
      cases h
      have h3 := want_le e 11 r1 u _ hw
      cases r1 with
      | nil => simp [wantT, nxt] at hw
      | cons t q => simp at h1 h3; omega
/-! rows of lines in memory -/
def fl10 (l : List ML) : List Value := l.flatMap ml1
theorem fl10_append (l m : List ML) : fl10 (l ++ m) = fl10 l ++ fl10 m := by simp [fl10]
theorem fl10_one (l : List ML) : ∀ u ∈ fl10 l, u.oneCell' = true := by
  intro u hu
  simp only [fl10, List.mem_flatMap] at hu
  obtain ⟨x, _, hx⟩ := hu
  simp only [ml1, List.mem_cons, List.not_mem_nil, or_false] at hx
  rcases hx with rfl | rfl | rfl | rfl | rfl | rfl | rfl | rfl | rfl | rfl <;> rfl
def OwnL (w : World) (b : Nat) (v : Value) (l : List Ln) : Prop := ∃ ms, w.ownsRow b 39 10 v ms.length (fl10 ms) ∧ All2 (LR 3 w b v.ownBlock) ms l
theorem OwnL.nil (w : World) (b : Nat) : OwnL w b (.slice none 0 0) [] := ⟨[], World.ownsRow_nil _ _ _ _, trivial⟩
theorem OwnL.form {w : World} {b : Nat} {v : Value} {l : List Ln} (h : OwnL w b v l) : ∃ A c, v = .slice A l.length c := by
  obtain ⟨ms, h1, h2⟩ := h
  rcases h1.2 with ⟨e, h0⟩ | ⟨g, cap, cur, e, _⟩
  · subst e; exact ⟨none, 0, by rw [← h2.length, h0]⟩
  · exact ⟨_, _, by rw [← h2.length]; exact e⟩
theorem OwnL.lt {w : World} {b : Nat} {v : Value} {l : List Ln} (h : OwnL w b v l) : ∀ g, v.ownBlock = some g → b ≤ g ∧ g < w.heap.size := by
  obtain ⟨ms, h1, h2⟩ := h
  exact fun g e => World.ownsRow.lt h1 g e
theorem OwnL.step {w w' : World} {b : Nat} {v : Value} {l : List Ln} (h : OwnL w b v l) (hw : ∀ k, k < w.heap.size → b ≤ k → w'.heap[k]? = w.heap[k]?) : OwnL w' b v l := by
  obtain ⟨ms, h1, h2⟩ := h
  refine ⟨ms, ⟨h1.1, h1.2.imp id ?_⟩, h2.mono fun _ _ r => r.step (Nat.le_refl _) (.inl rfl) (fun k k1 k2 _ => hw k k1 k2)⟩
  rintro ⟨g, cap, cur, rfl, k1, k2, k3⟩
  exact ⟨g, cap, cur, rfl, k1, (hw g (Array.getElem?_eq_some_iff.1 k2).1 k1).trans k2, k3⟩
theorem info39 : (Tryz.prog.info? 39).map (fun i => (i.zero, i.size, i.bytes)) = some (some (.agg #[.int .i64 0, .int .i64 0, .string ⟨#[]⟩, .bool false, .bool false, .slice none 0 0, .slice none 0 0, .slice none 0 0, .slice none 0 0, .int .i64 0]), 10, 144) := by kernel_rfl
/-- one line more -/
theorem push_L {ops : Array Oper} {rest : List Oper} {o : Oper} {a : Act} {Q : Exit → Act → World → Prop} {w : World} (hgd : o.guard = none) (s x : Operand) (t : TypeId)
    (ho : o.op = .call { callee := .builtin .append, args := #[s, x], argTypes := #[t, t] }) (ht : Tryz.prog.underlying t = some (.slice 39))
    (b : Nat) (v : Value) (l : List Ln) (hs : a.eval s = v) (hown : OwnL w b v l) (g c : Nat) (m : ML) (i : Ln) (hx : a.eval x = .slice (some ⟨g, 0, none⟩) 1 c)
    (hy : w.heap[g]? = some (.cells (ml1 m).toArray 39 (0, 0))) (hm : LR 3 w b v.ownBlock m i) (hl : l.length + 1 ≤ 549755813888) (hbase : b ≤ w.heap.size)
    (h : ∀ A c' w', OwnL w' b (.slice A (l.length + 1) c') (l ++ [i]) → w.grownBy w' v.ownBlock → ((Value.slice A (l.length + 1) c').ownBlock = v.ownBlock ∨ (Value.slice A (l.length + 1) c').ownBlock = some w.heap.size) → wpList Tryz.prog ops Q rest (a.put o.dst (.slice A (l.length + 1) c')) w') : wpList Tryz.prog ops Q (o :: rest) a w := by
  obtain ⟨i0, hi, hz0, hz1, hz2⟩ := info_parts info39
  obtain ⟨ms, h1, h2⟩ := hown
  have hlen := h2.length
  refine wpList_append_own_at w hgd s x t ho b 39 i0 _ 10 144 ht hi hz0 hz1 hz2 rfl (by decide) v ms.length (fl10 ms) hs h1 ⟨g, 0, none⟩ 1 c (fl10 [m]) hx rfl ?_ (fl10_one _) (by unfold maxLen; omega) (by omega) hbase (fun v' w' k2 k3 _ k5 => ?_)
  · intro j u hj
    have e : (fl10 [m]) = ml1 m := by simp [fl10]
    rw [e] at hj
    rw [add_zero_at']
    simp only [World.cell?, hy]
    simpa using hj
  · have hf : ∃ A c', v' = .slice A (l.length + 1) c' := by
      rcases k2.2 with ⟨e, h0⟩ | ⟨g, cap, cur, e, _⟩
      · omega
      · exact ⟨_, _, by rw [← hlen]; exact e⟩
    obtain ⟨A, c', rfl⟩ := hf
    refine h A c' w' ⟨ms ++ [m], ?_, ?_⟩ k3 k5
    · rw [fl10_append, List.length_append]
      exact k2
    · have hst : ∀ k, k < w.heap.size → b ≤ k → some k ≠ v.ownBlock → w'.heap[k]? = w.heap[k]? := fun k q1 _ q3 => k3.block k q1 q3
      have hx' : (Value.slice A (l.length + 1) c').ownBlock = v.ownBlock ∨ (Value.slice A (l.length + 1) c').ownBlock = none ∨ ∀ g, (Value.slice A (l.length + 1) c').ownBlock = some g → w.heap.size ≤ g ∨ g < b := by
        rcases k5 with e | e
        · exact .inl e
        · exact .inr (.inr fun g e2 => .inl (by rw [e] at e2; have := Option.some.inj e2; omega))
      exact (h2.mono fun _ _ r => r.step (Nat.le_refl _) hx' hst).append ⟨hm.step (Nat.le_refl _) hx' hst, trivial⟩
end Go.Proofs
