/-
  One rule more: what lies where while the longer pass is made.
-/
import Derived.RangeFuncNested
import Derived.RangeFuncBound
import Derived.RangeFuncCalls
import Derived.RangeFuncLeaves
import Derived.Shelf.Abstract
import Derived.Shelf.RegionOpen
import Derived.WalkKit
import Derived.WalkSpells
import Derived.WalkLawsBesides
import Derived.OwnWalkIn
import Derived.TacticsInMore
import Derived.LoopNIn
import Derived.LoopIn
import Derived.BigQuiet
import Derived.RegionIn
import Derived.Deep.QuietTactic
import Derived.Deep.RegionWith
import Derived.Lib.OthersKept
import Derived.Maps.AppendAt
import Derived.Lib.SmallJoins
import Derived.Shelf.SlSortCmp.QuietGrown
import Derived.Test.YtpppcfppabghhaaDoorNf
import Derived.Test.YtpppcfppabghhaaDoorGi
namespace Go.Proofs
open Go.RowKit Go.Shelf

set_option maxRecDepth 100000
attribute [local go_sem] Oper.semAt_some
attribute [local go_sem ↓] Go.wp_at_zero Go.wp_at_succ

theorem info28 : (Tryd.prog.info? 28).map (fun i => (i.zero, i.size, i.bytes)) = some (some (.agg #[.bool false, .slice none 0 0, .slice none 0 0, .slice none 0 0, .bool false, .slice none 0 0, .int .i64 0]), 7, 120) := by kernel_rfl
structure MJ (w0 : World) (B : Nat) (ptr sv ragg : Value) (VS R7 : List Value) (n : Nat) (p : Nat → Bool) (vs : Nat → Value) (W : World) : Prop where
  bl : Below B w0 W
  v1 : p 1 = true → vs 1 = ptr
  v2 : p 2 = true → vs 2 = sv
  v4 : p 4 = true → vs 4 = ragg
  r0 : p 0 = true → p 3 = false → ∃ g, vs 0 = .slice (some ⟨g, 0, none⟩) 0 0 ∧ B ≤ g ∧ W.heap[g]? = some (.cells #[] 28 (0, 0))
  r3 : p 3 = true → p 6 = false → W.ownsRow B 28 7 (vs 3) n VS ∧ ∃ g c, vs 3 = .slice (some ⟨g, 0, none⟩) n c
  r5 : p 5 = true → p 6 = false → ∃ g, vs 5 = .slice (some ⟨g, 0, none⟩) 1 1 ∧ W.heap[g]? = some (.cells R7.toArray 28 (0, 0))
  r6 : p 6 = true → W.ownsRow B 28 7 (vs 6) (n + 1) (VS ++ R7) ∧ ∃ g c, vs 6 = .slice (some ⟨g, 0, none⟩) (n + 1) c
  v7 : p 7 = true → vs 7 = .agg #[vs 6]
  r8 : p 8 = true → ∃ g x, vs 8 = .pointer (some ⟨g, 0, none⟩) ∧ B ≤ g ∧ W.heap[g]? = some (.cells #[x] 24 (0, 0)) ∧ (p 9 = true → x = vs 6)
  o3 : p 3 = true → p 0 = true ∧ p 2 = true
  o6 : p 6 = true → p 3 = true ∧ p 5 = true
  o7 : p 7 = true → p 6 = true
  o9 : p 9 = true → p 7 = true ∧ p 8 = true
theorem row_below {w w' : World} {B e s n : Nat} {v : Value} {xs : List Value} (h : w.ownsRow B e s v n xs) (hb : Below w.heap.size w w') : w'.ownsRow B e s v n xs := by
  refine ⟨h.1, ?_⟩
  rcases h.2 with h | ⟨g, cap, cur, h1, h2, h3, h4⟩
  · exact .inl h
  · exact .inr ⟨g, cap, cur, h1, h2, (hb.block g (Array.getElem?_eq_some_iff.1 h3).1).trans h3, h4⟩
theorem row_kept {w w' : World} {B e s n : Nat} {v : Value} {xs : List Value} (h : w.ownsRow B e s v n xs) (hb : ∀ (g : Nat) (cur : Array Value), w.heap[g]? = some (Obj.cells cur e (0, 0)) → w'.heap[g]? = w.heap[g]?) : w'.ownsRow B e s v n xs := by
  refine ⟨h.1, ?_⟩
  rcases h.2 with h | ⟨g, cap, cur, h1, h2, h3, h4⟩
  · exact .inl h
  · exact .inr ⟨g, cap, cur, h1, h2, (hb g cur h3).trans h3, h4⟩
section
variable {w0 : World} {B : Nat} {ptr sv ragg : Value} {VS R7 : List Value} {n : Nat} {p : Nat → Bool} {vs : Nat → Value} {W : World}
theorem MJ.start : MJ w0 B ptr sv ragg VS R7 n (fun _ => false) (fun _ => undef) w0.drew :=
  ⟨(Below.refl _ _).drew, by simp, by simp, by simp, by simp, by simp, by simp, by simp, by simp, by simp, by simp, by simp, by simp, by simp⟩
theorem MJ.ext {W' : World} (h : MJ w0 B ptr sv ragg VS R7 n p vs W) (hB : B ≤ W.heap.size) (hb : Below W.heap.size W W') : MJ w0 B ptr sv ragg VS R7 n p vs W' := by
  have hk : ∀ {g : Nat} {o : Obj}, W.heap[g]? = some o → W'.heap[g]? = some o := fun {g _} h1 => (hb.block g (Array.getElem?_eq_some_iff.1 h1).1).trans h1
  refine ⟨h.bl.trans (hb.mono hB), h.v1, h.v2, h.v4, fun a b => ?_, fun a b => ⟨row_below (h.r3 a b).1 hb, (h.r3 a b).2⟩, fun a b => ?_, fun a => ⟨row_below (h.r6 a).1 hb, (h.r6 a).2⟩, h.v7, fun a => ?_, h.o3, h.o6, h.o7, h.o9⟩
  · obtain ⟨g, h1, h2, h3⟩ := h.r0 a b; exact ⟨g, h1, h2, hk h3⟩
  · obtain ⟨g, h1, h3⟩ := h.r5 a b; exact ⟨g, h1, hk h3⟩
  · obtain ⟨g, x, h1, h2, h3, h4⟩ := h.r8 a; exact ⟨g, x, h1, h2, hk h3, h4⟩
theorem MJ.n6 (h : MJ w0 B ptr sv ragg VS R7 n p vs W) (h3 : p 3 = false) : p 6 = false := by
  cases e : p 6 with
  | false => rfl
  | true => have := (h.o6 e).1; rw [h3] at this; cases this
theorem MJ.n6' (h : MJ w0 B ptr sv ragg VS R7 n p vs W) (h5 : p 5 = false) : p 6 = false := by
  cases e : p 6 with
  | false => rfl
  | true => have := (h.o6 e).2; rw [h5] at this; cases this
theorem MJ.n9 (h : MJ w0 B ptr sv ragg VS R7 n p vs W) (h6 : p 6 = false) : p 9 = false := by
  cases e : p 9 with
  | false => rfl
  | true => have := h.o7 (h.o9 e).1; rw [h6] at this; cases this
theorem MJ.put0 (h : MJ w0 B ptr sv ragg VS R7 n p vs W) (hB : B ≤ W.heap.size) : MJ w0 B ptr sv ragg VS R7 n (fun j => p j || j == 0) (fun j => if j = 0 then .slice (some ⟨W.heap.size, 0, none⟩) 0 0 else vs j) (W.alloc (.cells #[] 28)) := by
  have e := h.ext hB ((Below.refl _ W).alloc (Nat.le_refl _) (.cells #[] 28))
  exact ⟨e.bl, by simpa using e.v1, by simpa using e.v2, by simpa using e.v4, fun _ _ => ⟨_, rfl, hB, heap_alloc_new _ _⟩, by simpa using e.r3, by simpa using e.r5, by simpa using e.r6, by simpa using e.v7, by simpa using e.r8, fun a => ⟨by simp, by simpa using (e.o3 (by simpa using a)).2⟩, by simpa using e.o6, by simpa using e.o7, by simpa using e.o9⟩
theorem MJ.put1 (h : MJ w0 B ptr sv ragg VS R7 n p vs W) : MJ w0 B ptr sv ragg VS R7 n (fun j => p j || j == 1) (fun j => if j = 1 then ptr else vs j) W :=
  ⟨h.bl, fun _ => rfl, by simpa using h.v2, by simpa using h.v4, by simpa using h.r0, by simpa using h.r3, by simpa using h.r5, by simpa using h.r6, by simpa using h.v7, by simpa using h.r8, by simpa using h.o3, by simpa using h.o6, by simpa using h.o7, by simpa using h.o9⟩
theorem MJ.put2 (h : MJ w0 B ptr sv ragg VS R7 n p vs W) : MJ w0 B ptr sv ragg VS R7 n (fun j => p j || j == 2) (fun j => if j = 2 then sv else vs j) W :=
  ⟨h.bl, by simpa using h.v1, fun _ => rfl, by simpa using h.v4, by simpa using h.r0, by simpa using h.r3, by simpa using h.r5, by simpa using h.r6, by simpa using h.v7, by simpa using h.r8, fun a => ⟨by simpa using (h.o3 (by simpa using a)).1, by simp⟩, by simpa using h.o6, by simpa using h.o7, by simpa using h.o9⟩
theorem MJ.put4 (h : MJ w0 B ptr sv ragg VS R7 n p vs W) : MJ w0 B ptr sv ragg VS R7 n (fun j => p j || j == 4) (fun j => if j = 4 then ragg else vs j) W :=
  ⟨h.bl, by simpa using h.v1, by simpa using h.v2, fun _ => rfl, by simpa using h.r0, by simpa using h.r3, by simpa using h.r5, by simpa using h.r6, by simpa using h.v7, by simpa using h.r8, by simpa using h.o3, by simpa using h.o6, by simpa using h.o7, by simpa using h.o9⟩
theorem MJ.put5 (h : MJ w0 B ptr sv ragg VS R7 n p vs W) (hB : B ≤ W.heap.size) : MJ w0 B ptr sv ragg VS R7 n (fun j => p j || j == 5) (fun j => if j = 5 then .slice (some ⟨W.heap.size, 0, none⟩) 1 1 else vs j) (W.alloc (.cells R7.toArray 28)) := by
  have e := h.ext hB ((Below.refl _ W).alloc (Nat.le_refl _) (.cells R7.toArray 28))
  exact ⟨e.bl, by simpa using e.v1, by simpa using e.v2, by simpa using e.v4, by simpa using e.r0, by simpa using e.r3, fun _ _ => ⟨_, rfl, heap_alloc_new _ _⟩, by simpa using e.r6, by simpa using e.v7, by simpa using e.r8, by simpa using e.o3, fun a => ⟨by simpa using (e.o6 (by simpa using a)).1, by simp⟩, by simpa using e.o7, by simpa using e.o9⟩
theorem MJ.put8 (h : MJ w0 B ptr sv ragg VS R7 n p vs W) (hB : B ≤ W.heap.size) (h8 : p 8 = false) : MJ w0 B ptr sv ragg VS R7 n (fun j => p j || j == 8) (fun j => if j = 8 then .pointer (some ⟨W.heap.size, 0, none⟩) else vs j) (W.alloc (.cells #[.slice none 0 0] 24)) := by
  have e := h.ext hB ((Below.refl _ W).alloc (Nat.le_refl _) (.cells #[.slice none 0 0] 24))
  have h9 : p 9 = false := by
    cases e9 : p 9 with
    | false => rfl
    | true => have := (h.o9 e9).2; rw [h8] at this; cases this
  exact ⟨e.bl, by simpa using e.v1, by simpa using e.v2, by simpa using e.v4, by simpa using e.r0, by simpa using e.r3, by simpa using e.r5, by simpa using e.r6, by simpa using e.v7, fun _ => ⟨_, _, rfl, hB, heap_alloc_new _ _, fun a => by simp [h9] at a⟩, by simpa using e.o3, by simpa using e.o6, by simpa using e.o7, fun a => ⟨by simpa using (e.o9 (by simpa using a)).1, by simp⟩⟩
theorem MJ.put3 (h : MJ w0 B ptr sv ragg VS R7 n p vs W) (hR : R7.length = 7) (h0 : p 0 = true) (h2 : p 2 = true) (h3 : p 3 = false) {v' : Value} {W' : World} (hB : B ≤ W.heap.size) (ho : W'.ownsRow B 28 7 v' n VS) (hv : ∃ g c, v' = .slice (some ⟨g, 0, none⟩) n c) (hg : W.grownBy W' (vs 0).ownBlock) : MJ w0 B ptr sv ragg VS R7 n (fun j => p j || j == 3) (fun j => if j = 3 then v' else vs j) W' := by
  obtain ⟨g0, e0, hb0, hg0⟩ := h.r0 h0 h3
  have h6 := h.n6 h3
  have hk : ∀ {g : Nat} {o : Obj}, W.heap[g]? = some o → o ≠ .cells #[] 28 (0, 0) → W'.heap[g]? = some o := fun {g o} h1 hne => by
    refine (hg.block g (Array.getElem?_eq_some_iff.1 h1).1 ?_).trans h1
    rw [e0]
    intro e
    injection e with e
    change g = g0 at e
    subst e
    rw [hg0] at h1
    injection h1 with h1
    exact hne h1.symm
  refine ⟨h.bl.grown hg hB (fun k hk => by rw [e0] at hk; injection hk with hk; subst hk; exact hb0), by simpa using h.v1, by simpa using h.v2, by simpa using h.v4, fun _ a => by simp at a, fun _ _ => ⟨ho, hv⟩, fun a _ => ?_, fun a => by simp [h6] at a, fun a => ?_, fun a => ?_, fun _ => ⟨by simpa using h0, by simpa using h2⟩, fun a => by simp [h6] at a, by simpa using h.o7, by simpa using h.o9⟩
  · obtain ⟨g, h1, h4⟩ := h.r5 (by simpa using a) h6
    exact ⟨g, h1, hk h4 (fun e => by injection e with e; have := congrArg Array.size e; simp [hR] at this)⟩
  · have := h.o7 (by simpa using a); rw [h6] at this; cases this
  · obtain ⟨g, x, h1, h2, h4, h5⟩ := h.r8 (by simpa using a)
    exact ⟨g, x, h1, h2, hk h4 (fun e => by injection e with e1 e2; cases e2), fun b => by have := h.n9 h6; simp [this] at b⟩
theorem MJ.put6 (h : MJ w0 B ptr sv ragg VS R7 n p vs W) (h3 : p 3 = true) (h5 : p 5 = true) (h6 : p 6 = false) {v' : Value} {W' : World} (hB : B ≤ W.heap.size) (ho : W'.ownsRow B 28 7 v' (n + 1) (VS ++ R7)) (hv : ∃ g c, v' = .slice (some ⟨g, 0, none⟩) (n + 1) c) (hg : W.grownBy W' (vs 3).ownBlock) : MJ w0 B ptr sv ragg VS R7 n (fun j => p j || j == 6) (fun j => if j = 6 then v' else vs j) W' := by
  obtain ⟨hO, g3, c3, e3⟩ := h.r3 h3 h6
  refine ⟨h.bl.grown hg hB (fun k hk => (hO.lt k hk).1), by simpa using h.v1, by simpa using h.v2, by simpa using h.v4, fun a b => by simp [h3] at b, fun _ b => by simp at b, fun _ b => by simp at b, fun _ => ⟨ho, hv⟩, fun a => ?_, fun a => ?_, by simpa using h.o3, fun _ => ⟨by simpa using h3, by simpa using h5⟩, fun _ => by simp, fun a => ?_⟩
  · have := h.o7 (by simpa using a); rw [h6] at this; cases this
  · obtain ⟨g, x, h1, h2, h4, _⟩ := h.r8 (by simpa using a)
    refine ⟨g, x, h1, h2, (hg.block g (Array.getElem?_eq_some_iff.1 h4).1 ?_).trans h4, fun b => by have := h.n9 h6; simp [this] at b⟩
    intro e
    rcases hO.2 with ⟨e4, _⟩ | ⟨g', cap, cur, e4, _, hg', _⟩
    · rw [e4] at e; cases e
    · rw [e4] at e
      injection e with e
      change g = g' at e
      subst e
      rw [h4] at hg'
      injection hg' with hg'
      injection hg' with e1 e2
      cases e2
  · have := h.n9 h6
    simp [this] at a
theorem MJ.put7 (h : MJ w0 B ptr sv ragg VS R7 n p vs W) (h6 : p 6 = true) : MJ w0 B ptr sv ragg VS R7 n (fun j => p j || j == 7) (fun j => if j = 7 then .agg #[vs 6] else vs j) W :=
  ⟨h.bl, by simpa using h.v1, by simpa using h.v2, by simpa using h.v4, by simpa using h.r0, by simpa using h.r3, by simpa using h.r5, by simpa using h.r6, fun _ => by simp, by simpa using h.r8, by simpa using h.o3, by simpa using h.o6, fun _ => by simpa using h6, fun a => ⟨by simp, by simpa using (h.o9 (by simpa using a)).2⟩⟩
theorem MJ.put9 (h : MJ w0 B ptr sv ragg VS R7 n p vs W) (h7 : p 7 = true) (h8 : p 8 = true) {g : Nat} {x : Value} (e8 : vs 8 = .pointer (some ⟨g, 0, none⟩)) (hgB : B ≤ g) (hx : W.heap[g]? = some (.cells #[x] 24 (0, 0))) (v : Value) : MJ w0 B ptr sv ragg VS R7 n (fun j => p j || j == 9) (fun j => if j = 9 then v else vs j) (W.setCell ⟨g, 0, none⟩ (vs 6)) := by
  have h6 := h.o7 h7
  have h3 := (h.o6 h6).1
  have hk : ∀ (g' : Nat) (cur : Array Value), W.heap[g']? = some (Obj.cells cur 28 (0, 0)) → (W.setCell ⟨g, 0, none⟩ (vs 6)).heap[g']? = W.heap[g']? := fun g' cur h1 => by
    have hne : g ≠ g' := fun e => by
      subst e
      rw [hx] at h1
      injection h1 with h1
      injection h1 with e1 e2
      cases e2
    simp [World.setCell, Array.getElem?_modify, hne]
  refine ⟨h.bl.setCell hgB _, by simpa using h.v1, by simpa using h.v2, by simpa using h.v4, fun a b => by simp [h3] at b, fun _ b => by simp [h6] at b, fun _ b => by simp [h6] at b, fun _ => ⟨row_kept (by simpa using (h.r6 h6).1) hk, by simpa using (h.r6 h6).2⟩, by simpa using h.v7, fun a => ⟨g, vs 6, by simpa using e8, hgB, ?_, fun _ => by simp⟩, by simpa using h.o3, by simpa using h.o6, by simpa using h.o7, fun _ => ⟨by simpa using h7, by simpa using h8⟩⟩
  simp [World.setCell, Array.getElem?_modify, hx]
end
end Go.Proofs
