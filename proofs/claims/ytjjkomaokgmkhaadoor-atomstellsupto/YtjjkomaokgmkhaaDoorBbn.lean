/-
  What is used everywhere: blocks, frames, rows of numbers.
-/
import Derived.RangeFuncNested
import Derived.RangeFuncBound
import Derived.RangeFuncCalls
import Derived.RangeFuncLeaves
import Derived.Shelf.Abstract
import Derived.Shelf.RegionOpen
import Derived.WalkKit
import Derived.WalkSpells
import Derived.WalkLawsBesides
import Derived.OwnWalkIn
import Derived.TacticsInMore
import Derived.LoopNIn
import Derived.LoopIn
import Derived.BigQuiet
import Derived.RegionIn
import Derived.Deep.QuietTactic
import Derived.Deep.RegionWith
import Derived.Lib.OthersKept
import Derived.Maps.AppendAt
import Derived.Lib.SmallJoins
import Derived.Shelf.SlSortCmp.QuietGrown
import Derived.Test.YtjjkomaokgmkhaaDoorVen
import Derived.Test.YtjjkomaokgmkhaaDoorShelfn
namespace Go.Proofs
open Go.RowKit Go.Shelf

set_option maxRecDepth 100000
attribute [local go_sem] Oper.semAt_some
attribute [local go_sem ↓] Go.wp_at_zero Go.wp_at_succ
theorem set_heap {W : World} {B j : Nat} {u : Value} {cs : Array Value} {t : TypeId} {m : Nat × Nat} (h : W.heap[B]? = some (.cells cs t m)) : (W.setCell ⟨B, j, none⟩ u).heap[B]? = some (.cells (cs.setIfInBounds j u) t m) := by
  show (W.heap.modify B _)[B]? = _
  rw [Array.getElem?_modify, if_pos rfl, h]
  rfl
theorem cell_of {W : World} {B j : Nat} {cs : Array Value} {t : TypeId} {m : Nat × Nat} (h : W.heap[B]? = some (.cells cs t m)) : W.cell? ⟨B, j, none⟩ = cs[j]? := by
  simp [World.cell?, h]
theorem free_of {W : World} {B j : Nat} {cs : Array Value} {t : TypeId} (h : W.heap[B]? = some (.cells cs t (0, 0))) : W.frozen? ⟨B, j, none⟩ = false := by
  simp [World.frozen?, h]
theorem blk_lt {w : World} {g : Nat} {o : Obj} (h : w.heap[g]? = some o) : g < w.heap.size := (Array.getElem?_eq_some_iff.1 h).1
theorem blk_below {w w' : World} {g n : Nat} {o : Obj} (h : w.heap[g]? = some o) (hb : Below n w w') (hg : g < n) : w'.heap[g]? = some o := by rw [hb.block g hg]; exact h
theorem cell_lt {w : World} {a : Addr} {v : Value} (h : w.cell? a = some v) : a.block < w.heap.size := by
  obtain ⟨o, ho, _⟩ := cells_of_cell h
  exact (Array.getElem?_eq_some_iff.1 ho).1
theorem cell_below {w w' : World} {n : Nat} {a : Addr} {v : Value} (h : w.cell? a = some v) (hb : Below n w w') (hn : w.heap.size ≤ n) : w'.cell? a = some v :=
  (hb.cell (p := a) (Nat.lt_of_lt_of_le (cell_lt h) hn)).trans h
/-- a slice value -/
def IsSl (v : Value) : Prop := ∃ a n c, v = .slice a n c
/-- a row of sets that reads so -/
def SRd (w : World) (g o : Nat) (ls : List (List (Int × Int))) : Prop := ∀ (j : Nat) (hj : j < ls.length), ∃ sv, w.cell? ⟨g, o + j, none⟩ = some sv ∧ Rs w sv ls[j]
def SR (w : World) (v : Value) (ls : List (List (Int × Int))) : Prop :=
  ∃ (a : Option Addr) (cap : Nat), v = .slice a ls.length cap ∧ ls.length ≤ cap ∧ (ls = [] ∨ ∃ g o, a = some ⟨g, o, none⟩ ∧ SRd w g o ls)
theorem SRd.below {w w' : World} {n g o : Nat} {ls : List (List (Int × Int))} (h : SRd w g o ls) (hb : Below n w w') (hn : w.heap.size ≤ n) : SRd w' g o ls := fun j hj => by
  obtain ⟨sv, h1, h2⟩ := h j hj
  exact ⟨sv, cell_below h1 hb hn, h2.below hb hn⟩
theorem SR.below {w w' : World} {n : Nat} {v : Value} {ls : List (List (Int × Int))} (h : SR w v ls) (hb : Below n w w') (hn : w.heap.size ≤ n) : SR w' v ls := by
  obtain ⟨a, cap, h1, h2, h3 | ⟨g, o, h3, h4⟩⟩ := h
  · exact ⟨a, cap, h1, h2, .inl h3⟩
  · exact ⟨a, cap, h1, h2, .inr ⟨g, o, h3, h4.below hb hn⟩⟩
theorem SR.grown {w w' : World} {v : Value} {ls : List (List (Int × Int))} (h : SR w v ls) (k : Grown w w') : SR w' v ls := h.below k.below (Nat.le_refl _)
/-- blocks outside of B stay as they are -/
structure Fr (w w' : World) (B : Nat → Prop) : Prop where
  os : w'.os = w.os
  tape : w'.tape = w.tape
  output : w'.output = w.output
  size : w.heap.size ≤ w'.heap.size
  block : ∀ k, k < w.heap.size → ¬ B k → w'.heap[k]? = w.heap[k]?
theorem Fr.refl (w : World) (B : Nat → Prop) : Fr w w B := ⟨rfl, rfl, rfl, Nat.le_refl _, fun _ _ _ => rfl⟩
theorem Fr.mono {w w' : World} {B C : Nat → Prop} (h : Fr w w' B) (hc : ∀ k, k < w.heap.size → B k → C k) : Fr w w' C := ⟨h.os, h.tape, h.output, h.size, fun k hk hn => h.block k hk fun hb => hn (hc k hk hb)⟩
theorem Fr.trans {a b c : World} {B C : Nat → Prop} (h : Fr a b B) (k : Fr b c C) (hc : ∀ i, i < a.heap.size → C i → B i) : Fr a c B :=
  ⟨k.os.trans h.os, k.tape.trans h.tape, k.output.trans h.output, Nat.le_trans h.size k.size, fun i hi hn => (k.block i (by have := h.size; omega) fun hi2 => hn (hc i hi hi2)).trans (h.block i hi hn)⟩
theorem Fr.below {w w' : World} {B : Nat → Prop} {base : Nat} (h : Fr w w' B) (hB : ∀ k, B k → base ≤ k) (hb : base ≤ w.heap.size) : Below base w w' := ⟨h.os, h.tape, h.output, h.size, fun k hk => h.block k (by omega) fun hk2 => by have := hB k hk2; omega⟩
theorem fr_by {w w' : World} {row : Option Nat} (h : w.grownBy w' row) : Fr w w' fun k => row = some k := ⟨h.os, h.tape, h.output, h.size, fun k hk hn => h.block k hk fun e => hn e.symm⟩
theorem fr_below {w w' : World} {n : Nat} (h : Below n w w') (hn : w.heap.size ≤ n) (B : Nat → Prop) : Fr w w' B := ⟨h.os, h.tape, h.output, h.size, fun k hk _ => h.block k (by omega)⟩
theorem fr_grown {w w' : World} (h : Grown w w') (B : Nat → Prop) : Fr w w' B := fr_below h.below (Nat.le_refl _) B
theorem fr_set (w : World) (b j : Nat) (u : Value) : Fr w (w.setCell ⟨b, j, none⟩ u) fun k => k = b := ⟨rfl, rfl, rfl, by simp [World.setCell], fun k _ hn => Below.heap_setCell w ⟨b, j, none⟩ u k hn⟩
theorem own_fr {w w' : World} {base : Nat} {e : TypeId} {size : Nat} {v : Value} {n : Nat} {xs : List Value} {B : Nat → Prop} (h : w.ownsRow base e size v n xs) (hf : Fr w w' B) (hB : ∀ b, v.ownBlock = some b → ¬ B b) : w'.ownsRow base e size v n xs := by
  refine ⟨h.1, ?_⟩
  rcases h.2 with hn | ⟨g, cap, cur, rfl, hb, hgg, rest⟩
  · exact .inl hn
  · exact .inr ⟨g, cap, cur, rfl, hb, (hf.block g (blk_lt hgg) (hB g rfl)).trans hgg, rest⟩
/-- rows of two kinds lie in two blocks -/
theorem own_ne {w : World} {base base' : Nat} {e e' : TypeId} {size size' : Nat} {v v' : Value} {n n' : Nat} {xs xs' : List Value} (h : w.ownsRow base e size v n xs) (h' : w.ownsRow base' e' size' v' n' xs') (hne : e ≠ e') {b : Nat} (hb : v.ownBlock = some b) : v'.ownBlock ≠ some b := fun hb' => by
  rcases h.2 with ⟨rfl, _⟩ | ⟨g, cap, cur, rfl, _, hg, _⟩
  · cases hb
  · rcases h'.2 with ⟨rfl, _⟩ | ⟨g', cap', cur', rfl, _, hg', _⟩
    · cases hb'
    · injection hb with hb
      injection hb' with hb'
      simp only at hb hb'
      subst hb hb'
      rw [hg] at hg'
      injection hg' with hg'
      injection hg' with _ h2 _
      exact hne h2
theorem own_at {w : World} {base : Nat} {e : TypeId} {size : Nat} {v : Value} {n : Nat} {xs : List Value} (h : w.ownsRow base e size v n xs) {b : Nat} (hb : v.ownBlock = some b) : ∃ cur, w.heap[b]? = some (.cells cur e (0, 0)) := by
  rcases h.2 with ⟨rfl, _⟩ | ⟨g, cap, cur, rfl, _, hg, _⟩
  · cases hb
  · injection hb with hb
    simp only at hb
    subst hb
    exact ⟨cur, hg⟩
/-- a row of numbers that reads so -/
def IRd (w : World) (g o : Nat) (l : List Int) : Prop := ∀ (j : Nat) (hj : j < l.length), w.cell? ⟨g, o + j, none⟩ = some (.int .i64 l[j])
def IR (w : World) (v : Value) (l : List Int) : Prop :=
  ∃ (a : Option Addr) (cap : Nat), v = .slice a l.length cap ∧ l.length ≤ cap ∧ (l = [] ∨ ∃ g o, a = some ⟨g, o, none⟩ ∧ IRd w g o l)
theorem IRd.below {w w' : World} {n g o : Nat} {l : List Int} (h : IRd w g o l) (hb : Below n w w') (hn : w.heap.size ≤ n) : IRd w' g o l := fun j hj => cell_below (h j hj) hb hn
theorem IR.below {w w' : World} {n : Nat} {v : Value} {l : List Int} (h : IR w v l) (hb : Below n w w') (hn : w.heap.size ≤ n) : IR w' v l := by
  obtain ⟨a, cap, h1, h2, h3 | ⟨g, o, h3, h4⟩⟩ := h
  · exact ⟨a, cap, h1, h2, .inl h3⟩
  · exact ⟨a, cap, h1, h2, .inr ⟨g, o, h3, h4.below hb hn⟩⟩
theorem IR.grown {w w' : World} {v : Value} {l : List Int} (h : IR w v l) (k : Grown w w') : IR w' v l := h.below k.below (Nat.le_refl _)
theorem IR.sl {w : World} {v : Value} {l : List Int} (h : IR w v l) : IsSl v := by
  obtain ⟨a, c, rfl, _⟩ := h
  exact ⟨a, _, c, rfl⟩
def ints (l : List Int) : List Value := l.map fun x => .int .i64 x
theorem ints_append (l k : List Int) : ints (l ++ k) = ints l ++ ints k := by simp [ints]
theorem ints_length (l : List Int) : (ints l).length = l.length := by simp [ints]
theorem ints_one (l : List Int) : ∀ u ∈ ints l, u.oneCell' = true := by
  intro u hu
  unfold ints at hu
  obtain ⟨x, _, rfl⟩ := List.mem_map.1 hu
  rfl
/-- a row of numbers of the call's own -/
def OwnI (w : World) (base : Nat) (v : Value) (l : List Int) : Prop := w.ownsRow base 3 1 v l.length (ints l)
theorem OwnI.nil (w : World) (base : Nat) : OwnI w base (.slice none 0 0) [] := World.ownsRow_nil _ _ _ _
theorem OwnI.below {w w' : World} {base n : Nat} {v : Value} {l : List Int} (h : OwnI w base v l) (hb : Below n w w') (hn : w.heap.size ≤ n) : OwnI w' base v l := by
  refine ⟨h.1, ?_⟩
  rcases h.2 with h | ⟨g, cap, cur, rfl, h1, h2, h3⟩
  · exact .inl h
  · have : g < w.heap.size := (Array.getElem?_eq_some_iff.1 h2).1
    exact .inr ⟨g, cap, cur, rfl, h1, (hb.block g (by omega)).trans h2, h3⟩
theorem OwnI.alloc {w : World} {base : Nat} {v : Value} {l : List Int} (h : OwnI w base v l) (o : Obj) : OwnI (w.alloc o) base v l := World.ownsRow.alloc h o
theorem OwnI.le {w : World} {base base' : Nat} {v : Value} {l : List Int} (h : OwnI w base v l) (hb : base' ≤ base) : OwnI w base' v l := Joins.ownsRow_le h hb
theorem OwnI.ir {w : World} {base : Nat} {v : Value} {l : List Int} (h : OwnI w base v l) : IR w v l := by
  rcases h.2 with ⟨rfl, h0⟩ | ⟨g, cap, cur, rfl, _, _, hc, _⟩
  · have : l = [] := List.eq_nil_of_length_eq_zero h0
    subst this
    exact ⟨none, 0, rfl, Nat.le_refl _, .inl rfl⟩
  · refine ⟨_, cap, rfl, hc, .inr ⟨g, 0, rfl, fun j hj => ?_⟩⟩
    have := World.ownsRow.cells h rfl j (.int .i64 l[j]) (by simp [ints, hj])
    rw [add_zero_at] at this
    rw [Nat.zero_add]
    exact this
theorem iinfo3 : (Tryd.prog.info? 3).map (fun i => (i.zero, i.size, i.bytes)) = some (some (.int .i64 0), 1, 8) := by kernel_rfl
/-- one number more behind a row of the call's own -/
theorem push_I {ops : Array Oper} {rest : List Oper} {o : Oper} {a : Act} {Q : Exit → Act → World → Prop} {w : World} (hgd : o.guard = none) (s x : Operand) (t : TypeId)
    (ho : o.op = .call { callee := .builtin .append, args := #[s, x], argTypes := #[t, t] }) (ht : Tryd.prog.underlying t = some (.slice 3))
    (base : Nat) (v : Value) (l : List Int) (hs : a.eval s = v) (hown : OwnI w base v l) (g c : Nat) (p : Int) (hx : a.eval x = .slice (some ⟨g, 0, none⟩) 1 c)
    (hp : w.cell? ⟨g, 0, none⟩ = some (.int .i64 p)) (hl : l.length + 1 ≤ 8796093022208) (hbase : base ≤ w.heap.size)
    (h : ∀ v' w', OwnI w' base v' (l ++ [p]) → Below base w w' → wpList Tryd.prog ops Q rest (a.put o.dst v') w') : wpList Tryd.prog ops Q (o :: rest) a w := by
  obtain ⟨i0, hi, hz0, hz1, hz2⟩ := info_parts iinfo3
  refine wpList_append_own w hgd s x t ho base 3 i0 (.int .i64 0) 1 8 ht hi hz0 hz1 hz2 rfl (by decide) v l.length (ints l) hs hown ⟨g, 0, none⟩ 1 c (ints [p]) hx rfl ?_ (fun u hu => by simp [ints] at hu; subst hu; rfl) (by unfold maxLen; omega) (by omega) hbase (fun v' w' h2 h3 _ => h v' w' ?_ ((Below.refl _ w).grown h3 hbase (fun k hk => (World.ownsRow.lt hown k hk).1)))
  · intro j u hj
    match j, hj with
    | 0, hj => simp [ints] at hj; subst hj; exact hp
  · unfold OwnI
    rw [ints_append, List.length_append]
    exact h2
theorem own_form {w : World} {base : Nat} {e : TypeId} {size : Nat} {v : Value} {n : Nat} {xs : List Value} (h : w.ownsRow base e size v n xs) (hn : 0 < n) : ∃ g cap, v = .slice (some ⟨g, 0, none⟩) n cap ∧ n ≤ cap := by
  rcases h.2 with ⟨_, h0⟩ | ⟨g, cap, cur, rfl, _, _, h3, _⟩
  · omega
  · exact ⟨g, cap, rfl, h3⟩
theorem own_len {w : World} {base : Nat} {e : TypeId} {size : Nat} {v : Value} {n : Nat} {xs : List Value} (h : w.ownsRow base e size v n xs) : ∃ a cap, v = .slice a n cap := by
  rcases h.2 with ⟨rfl, rfl⟩ | ⟨g, cap, cur, rfl, _⟩
  · exact ⟨_, _, rfl⟩
  · exact ⟨_, _, rfl⟩
theorem fr_more {w wr W : World} {B : Nat → Prop} (h : Fr w wr B) (k : Grown wr W) : Fr w W B := h.trans (fr_grown k fun _ => False) fun _ _ e => e.elim
end Go.Proofs
