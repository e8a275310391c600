/-
  Several texts in one (Yqr Yrr).
-/
import Derived.ArgAppend
import Derived.Test.YtknaoahokopplaaGreatDoorMger
import Derived.Shelf.Abstract
import Derived.WalkKit
import Derived.WalkSpells
import Derived.WalkLawsBesides
import Derived.BigQuiet
import Derived.Deep.QuietTactic
import Derived.Deep.LoopGhost
import Derived.WalkMore
namespace Go.Proofs
open Go.RowKit Go.Shelf

/-- a row that may be gone through, d deep: its blocks lie from b0 up to b1 -/
def Ta (b0 b1 : Nat) : Nat → World → Value → Prop
  | 0, _, v => v = .slice none 0 0
  | d + 1, w, v => v = .slice none 0 0 ∨ ∃ g cur n c, v = .slice (some ⟨g, 0, none⟩) n c ∧ b0 ≤ g ∧ g < b1 ∧ w.heap[g]? = some (.cells cur 58 (0, 0)) ∧ n ≤ c ∧ n ≤ 1000 ∧ cur.size = c * 8 ∧ ∀ j, j < n → ∃ p, cur[j * 8 + 3]? = some p ∧ Ta b0 b1 d w p
/-- blocks of items are written over, from b0 up to b1; all others stay -/
structure St (b0 b1 : Nat) (w w' : World) : Prop where
  os : w'.os = w.os
  tape : w'.tape = w.tape
  output : w'.output = w.output
  size : w.heap.size ≤ w'.heap.size
  out : ∀ g, g < w.heap.size → g < b0 ∨ b1 ≤ g → w'.heap[g]? = w.heap[g]?
  blk : ∀ g, g < w.heap.size → w'.heap[g]? = w.heap[g]? ∨ ∃ cur cur', w.heap[g]? = some (.cells cur 58 (0, 0)) ∧ w'.heap[g]? = some (.cells cur' 58 (0, 0)) ∧ cur'.size = cur.size ∧ ∀ j : Nat, cur'[j * 8 + 3]? = cur[j * 8 + 3]? ∨ cur'[j * 8 + 3]? = some (.slice none 0 0)
theorem St.refl (b0 b1 : Nat) (w : World) : St b0 b1 w w := ⟨rfl, rfl, rfl, Nat.le_refl _, fun _ _ _ => rfl, fun _ _ => .inl rfl⟩
theorem St.trans {b0 b1 : Nat} {w w' w'' : World} (h : St b0 b1 w w') (k : St b0 b1 w' w'') : St b0 b1 w w'' := by
  refine ⟨k.os.trans h.os, k.tape.trans h.tape, k.output.trans h.output, Nat.le_trans h.size k.size, fun g h1 h2 => (k.out g (by have := h.size; omega) h2).trans (h.out g h1 h2), fun g h1 => ?_⟩
  have h1' : g < w'.heap.size := by have := h.size; omega
  rcases h.blk g h1 with e | ⟨c1, c2, e1, e2, e3, e4⟩
  · rcases k.blk g h1' with f | ⟨d1, d2, f1, f2, f3, f4⟩
    · exact .inl (f.trans e)
    · exact .inr ⟨d1, d2, e ▸ f1, f2, f3, f4⟩
  · rcases k.blk g h1' with f | ⟨d1, d2, f1, f2, f3, f4⟩
    · exact .inr ⟨c1, c2, e1, f.trans e2, e3, e4⟩
    · rw [e2] at f1
      cases f1
      refine .inr ⟨c1, d2, e1, f2, f3.trans e3, fun j => ?_⟩
      rcases f4 j with f | f
      · rcases e4 j with e | e
        · exact .inl (f.trans e)
        · exact .inr (f.trans e)
      · exact .inr f
theorem Ta.st {b0 b1 : Nat} {w w' : World} (h : St b0 b1 w w') : ∀ {d : Nat} {v : Value}, Ta b0 b1 d w v → Ta b0 b1 d w' v
  | 0, _, t => t
  | d + 1, v, t => by
    rcases t with t | ⟨g, cur, n, c, rfl, k1, k2, k3, k4, k5, k6, k7⟩
    · exact .inl t
    · refine .inr ?_
      rcases h.blk g (Array.getElem?_eq_some_iff.1 k3).1 with e | ⟨c1, c2, e1, e2, e3, e4⟩
      · exact ⟨g, cur, n, c, rfl, k1, k2, e.trans k3, k4, k5, k6, fun j hj => (k7 j hj).imp fun p q => ⟨q.1, Ta.st h q.2⟩⟩
      · rw [k3] at e1
        cases e1
        refine ⟨g, c2, n, c, rfl, k1, k2, e2, k4, k5, e3.trans k6, fun j hj => ?_⟩
        rcases e4 j with e | e
        · obtain ⟨p, q1, q2⟩ := k7 j hj
          exact ⟨p, e.trans q1, Ta.st h q2⟩
        · refine ⟨_, e, ?_⟩
          cases d with
          | zero => rfl
          | succ d => exact .inl rfl
theorem St.of_below {b0 b1 : Nat} {w w' : World} (h : Below w.heap.size w w') : St b0 b1 w w' := ⟨h.os, h.tape, h.output, h.size, fun g h1 _ => h.block g h1, fun g h1 => .inl (h.block g h1)⟩
/-- one cell of a row's block: not where parts stand, or there none -/
theorem St.set {b0 b1 : Nat} {w : World} {g : Nat} {cur : Array Value} (hg : w.heap[g]? = some (.cells cur 58 (0, 0))) (h0 : b0 ≤ g) (h1 : g < b1) (j : Nat) (v : Value) (hj : j % 8 ≠ 3 ∨ v = .slice none 0 0) : St b0 b1 w (w.setCell ⟨g, j, none⟩ v) := by
  refine ⟨rfl, rfl, rfl, by simp, fun k _ h3 => heap_set_other _ (by omega) _ _, fun k _ => ?_⟩
  by_cases hk : k = g
  · subst hk
    refine .inr ⟨cur, _, hg, cells_setS hg, by simp, fun i => ?_⟩
    rw [Array.getElem?_setIfInBounds]
    split
    · rename_i hij
      rcases hj with hj | hj
      · omega
      · split
        · exact .inr (by rw [hj])
        · left
          symm
          rw [Array.getElem?_eq_none]
          omega
    · exact .inl rfl
  · exact .inl (heap_set_other _ hk _ _)
/-- a cell of a new block -/
theorem St.setN {b0 b1 : Nat} {w W : World} (h : St b0 b1 w W) {g : Nat} (hg : w.heap.size ≤ g) (j : Nat) (v : Value) : St b0 b1 w (W.setCell ⟨g, j, none⟩ v) :=
  ⟨h.os, h.tape, h.output, by simpa using h.size, fun k h1 h3 => (heap_set_other _ (by omega) _ _).trans (h.out k h1 h3), fun k h1 => by
    have e : (W.setCell ⟨g, j, none⟩ v).heap[k]? = W.heap[k]? := heap_set_other _ (by omega) _ _
    rw [e]
    exact h.blk k h1⟩
theorem St.alloc {b0 b1 : Nat} {w W : World} (h : St b0 b1 w W) (o : Obj) : St b0 b1 w (W.alloc o) := h.trans (St.of_below ((Below.refl _ W).alloc (Nat.le_refl _) o))
theorem St.grownN {b0 b1 : Nat} {w W W' : World} (h : St b0 b1 w W) (hg : W.grownBy W' none) : St b0 b1 w W' := h.trans (St.of_below ((Below.refl _ W).grown hg (Nat.le_refl _) (fun k hk => by cases hk)))
/-- a row that grows, behind its end in its own block, or in a new one -/
def Ap (b0 b1 : Nat) (w W : World) (T z : Nat) (v : Value) (k : Nat) : Prop :=
  v = .slice none 0 0 ∨ ∃ g cur n c, v = .slice (some ⟨g, 0, none⟩) n c ∧ W.heap[g]? = some (.cells cur T (0, 0)) ∧ cur.size = c * z ∧ n ≤ c ∧ n ≤ k ∧ (b0 ≤ g ∧ g < b1 ∨ w.heap.size ≤ g)
theorem Ap.allocs {b0 b1 : Nat} {w W : World} {T z : Nat} {v : Value} {k : Nat} (h : Ap b0 b1 w W T z v k) (o : Obj) : Ap b0 b1 w (W.alloc o) T z v k :=
  h.imp id fun ⟨g, cur, n, c, e, k1, k2⟩ => ⟨g, cur, n, c, e, (Below.heap_alloc _ _ _ (Array.getElem?_eq_some_iff.1 k1).1).trans k1, k2⟩
theorem setCells_step {b0 b1 : Nat} {w : World} {g : Nat} : ∀ (vs : List Value) (W : World) (cur : Array Value) (o : Nat), St b0 b1 w W → W.heap[g]? = some (.cells cur 58 (0, 0)) → (b0 ≤ g ∧ g < b1 ∨ w.heap.size ≤ g) → (∀ i v, vs[i]? = some v → (o + i) % 8 ≠ 3 ∨ v = .slice none 0 0) →
    St b0 b1 w (W.setCells g o vs) ∧ ∃ cur', (W.setCells g o vs).heap[g]? = some (.cells cur' 58 (0, 0)) ∧ cur'.size = cur.size
  | [], W, cur, o, h, hg, _, _ => ⟨h, cur, hg, rfl⟩
  | v :: vs, W, cur, o, h, hg, hb, hv => by
    have h1 : St b0 b1 w (W.setCell ⟨g, o, none⟩ v) := by
      rcases hb with hb | hb
      · exact h.trans (St.set hg hb.1 hb.2 o v (hv 0 v rfl))
      · exact h.setN hb o v
    obtain ⟨k1, cur', k2, k3⟩ := setCells_step vs _ _ (o + 1) h1 (cells_setS (j := o) (u := v) hg) hb (fun i u hi => by
      have := hv (i + 1) u (by simpa using hi)
      rwa [show o + 1 + i = o + (i + 1) by omega])
    exact ⟨k1, cur', k2, by rw [k3]; simp⟩
set_option maxHeartbeats 1000000 in
/-- one item more behind a row that grows -/
theorem push_W {ops : Array Oper} {rest : List Oper} {o : Oper} {a : Act} {Q : Exit → Act → World → Prop} {W : World} (hgd : o.guard = none) (s x : Operand)
    (ho : o.op = .call { callee := .builtin .append, args := #[s, x], argTypes := #[42, 42] })
    (b0 b1 : Nat) (w : World) (v : Value) (k : Nat) (hs : a.eval s = v) (hA : Ap b0 b1 w W 58 8 v k) (hS : St b0 b1 w W) (g c : Nat) (m : MI) (hm : m.A = none ∧ m.n = 0 ∧ m.c = 0) (hx : a.eval x = .slice (some ⟨g, 0, none⟩) 1 c)
    (hy : W.heap[g]? = some (.cells (mi1 m).toArray 58 (0, 0))) (hk : k ≤ 100000)
    (h : ∀ v' W', Ap b0 b1 w W' 58 8 v' (k + 1) → St b0 b1 w W' → wpList Tryz.prog ops Q rest (a.put o.dst v') W') : wpList Tryz.prog ops Q (o :: rest) a W := by
  obtain ⟨i0, hi, hz0, hz1, hz2⟩ := info_parts info50
  have hc : ∀ j u, (mi1 m)[j]? = some u → W.cell? ((⟨g, 0, none⟩ : Addr).add j) = some u := fun j u hj => by
    rw [add_zero_at']
    simp only [World.cell?, hy]
    simpa using hj
  have h1c : ∀ u ∈ mi1 m, u.oneCell' = true := by
    intro u hu
    exact fi_one [m] u (by simpa [fi] using hu)
  have hnew : ∀ (xs : List Value) (n : Nat) (v' : Value) (W' : World), W'.ownsRow W.heap.size 58 8 v' (n + 1) xs → W.grownBy W' none → n ≤ k → wpList Tryz.prog ops Q rest (a.put o.dst v') W' := by
    intro xs n v' W' ho' hg' hn
    refine h v' W' ?_ (hS.grownN hg')
    rcases ho'.2 with ⟨_, h0⟩ | ⟨g', cap, cur, e, k1, k2, k3, k4, k5, k6⟩
    · omega
    · exact .inr ⟨g', cur, n + 1, cap, e, k2, k5, k3, by omega, .inr (by have := hS.size; omega)⟩
  rcases hA with rfl | ⟨g1, cur, n, c1, rfl, k1, k2, k3, k4, k5⟩
  · exact wpList_append_grows W hgd s x 42 ho 58 i0 _ 8 88 Tryz.underlying42 hi hz0 hz1 hz2 rfl (by decide) none 0 0 [] hs (fun _ => ⟨rfl, rfl⟩) rfl (fun b hb => by cases hb) ⟨g, 0, none⟩ 1 c (mi1 m) hx rfl hc h1c (by omega) (by decide) (by decide) (fun v' W' r1 r2 => hnew _ 0 v' W' r1 r2 (by omega))
  · have hlo : (cur.toList.take (n * 8)).length = n * 8 := by
      rw [List.length_take, Array.length_toList, k2]; omega
    refine wpList_append_arg W hgd s x 42 ho 58 i0 _ 8 88 Tryz.underlying42 hi hz0 hz1 hz2 rfl (by decide) g1 0 n c1 (cur.toList.take (n * 8)) hs hlo ?_ ⟨g, 0, none⟩ 1 c (mi1 m) hx rfl hc h1c ?_ (by unfold maxLen; omega) (by omega) (fun hr => ?_) (fun hr v' W' r1 r2 => hnew _ n v' W' r1 r2 (by omega))
    · intro j u hj
      rw [List.getElem?_take] at hj
      split at hj
      · simp only [World.cell?, k1, Nat.zero_add]
        simpa using hj
      · cases hj
    · intro hr j hj
      have hj8 : j < 8 := hj
      refine ⟨?_, by simp [World.frozen?, k1]⟩
      have hlt : n * 8 + j < cur.size := by rw [k2]; omega
      simp [World.cell?, k1, hlt]
    · obtain ⟨q1, cur', q2, q3⟩ := setCells_step (mi1 m) W cur (0 + n * 8) hS k1 k5 (fun i u hi => by
        by_cases h3 : i = 3
        · subst h3
          right
          obtain ⟨e1, e2, e3⟩ := hm
          simp only [mi1] at hi
          simp at hi
          rw [← hi, e1, e2, e3]
        · left
          have : i < 8 := (List.getElem?_eq_some_iff.1 hi).1
          omega)
      exact h _ _ (.inr ⟨g1, cur', n + 1, c1, rfl, q2, by rw [q3, k2], hr, by omega, k5⟩) q1
end Go.Proofs
namespace Go.Proofs
open Go.RowKit Go.Shelf

set_option maxRecDepth 100000
attribute [local go_sem] Oper.semAt_some

theorem Ta.cells {b0 b1 d : Nat} {w : World} {g n c : Nat} (h : Ta b0 b1 (d + 1) w (.slice (some ⟨g, 0, none⟩) n c)) : b0 ≤ g ∧ g < b1 ∧ n ≤ c ∧ n ≤ 1000 ∧ ∃ cur, w.heap[g]? = some (.cells cur 58 (0, 0)) ∧ cur.size = c * 8 ∧ ∀ j, j < n → (∃ p, w.cell? ⟨g, j * 8 + 3, none⟩ = some p ∧ Ta b0 b1 d w p) ∧ (∃ x, w.cell? ⟨g, j * 8, none⟩ = some x) ∧ ∃ x, w.cell? ⟨g, j * 8 + 1, none⟩ = some x := by
  rcases h with h | ⟨g', cur, n', c', e, k1, k2, k3, k4, k5, k6, k7⟩
  · cases h
  · cases e
    refine ⟨k1, k2, k4, k5, cur, k3, k6, fun j hj => ⟨?_, ?_, ?_⟩⟩
    · obtain ⟨p, q1, q2⟩ := k7 j hj
      exact ⟨p, by simp only [World.cell?, k3]; exact q1, q2⟩
    · exact ⟨cur[j * 8]'(by omega), by simp only [World.cell?, k3]; exact Array.getElem?_eq_getElem _⟩
    · exact ⟨cur[j * 8 + 1]'(by omega), by simp only [World.cell?, k3]; exact Array.getElem?_eq_getElem _⟩
abbrev kI (N : Int) : MI := ⟨N, 0, ⟨#[]⟩, none, 0, 0, 0, 0, false, 0⟩
/-- what writing over a row leaves -/
def WC (b0 b1 : Nat) (N : Int) (w : World) (v : Value) : Prop := Calls Tryz.prog 32 #[v, .int .i64 N] w fun x w' => x = .returned (.tuple #[]) ∧ St b0 b1 w w'
set_option maxHeartbeats 8000000 in
theorem write_nil (b0 b1 : Nat) (N : Int) (w : World) : WC b0 b1 N w (.slice none 0 0) := by
  unfold WC
  go_enter Tryz.func32, Tryz.ntmps32
  go_wp2_with fail
  go_loopw [4] (fun v4 wr => v4 = .int .i64 0 ∧ wr = w) (fun _ _ => 0)
  case atStart => exact ⟨rfl, rfl⟩
  case round =>
    obtain ⟨rfl, hw⟩ := hrel
    subst hw
    obtain ⟨wz, rfl⟩ : ∃ wz, wz = wr := ⟨_, rfl⟩
    go_wp2_with fail
    go_loopw [0, 5] (fun v0 v5 wr2 => ∃ k : Nat, v5 = .int .i64 k ∧ k ≤ 9 ∧ Hid (Ap b0 b1 wz wr2 58 8 v0 k ∧ St b0 b1 wz wr2)) (fun _ v5 _ => 9 - (intOf v5).toNat)
    case atStart => exact ⟨0, rfl, by omega, .inl rfl, St.refl _ _ _⟩
    case round =>
      obtain ⟨k, rfl, hk, H⟩ := hrel
      obtain ⟨wo, rfl⟩ : ∃ wo, wo = wr := ⟨_, rfl⟩
      by_cases h9 : k = 9
      · subst h9
        go_wp2
        refine bodyPost_end (results_none rfl _ _ _) rfl ?_
        exact ⟨rfl, H.out.2⟩
      · have e1 : decide ((k : Int) < 9) = true := by simp; omega
        have HA : Hid (Ap b0 b1 wz (wo.alloc (.cells (mi1 (kI N)).toArray 58)) 58 8 u0 k ∧ St b0 b1 wz (wo.alloc (.cells (mi1 (kI N)).toArray 58))) := ⟨H.out.1.allocs _, H.out.2.alloc _⟩
        go_wp2_with (first | (at_builtin; go_must (refine push_W rfl _ _ rfl b0 b1 wz u0 k rfl HA.out.1 HA.out.2 wo.heap.size 1 (kI N) ⟨rfl, rfl, rfl⟩ rfl (World.alloc_heap_new _ _) (by omega) ?_); intro v' W' hA' hS') | fail)
        exact ⟨⟨k + 1, by go_num, by omega, hA', hS'⟩, by simp [intOf]; omega⟩
set_option maxHeartbeats 8000000 in
theorem write_row (b0 b1 : Nat) (N : Int) (d : Nat) (IH : ∀ w v, Ta b0 b1 d w v → WC b0 b1 N w v) (w : World) (g n c : Nat) (h : Ta b0 b1 (d + 1) w (.slice (some ⟨g, 0, none⟩) n c)) : WC b0 b1 N w (.slice (some ⟨g, 0, none⟩) n c) := by
  have hn1 := h.cells.2.2.2.1
  have H : Hid (Ta b0 b1 (d + 1) w (.slice (some ⟨g, 0, none⟩) n c) ∧ ∀ w v, Ta b0 b1 d w v → WC b0 b1 N w v) := ⟨h, IH⟩
  clear h IH
  unfold WC
  go_enter Tryz.func32, Tryz.ntmps32
  go_wp2_with fail
  go_loopw [4] (fun v4 wr => ∃ j : Nat, v4 = .int .i64 j ∧ j ≤ n ∧ Hid (St b0 b1 w wr)) (fun v4 _ => n - (intOf v4).toNat)
  case atStart => exact ⟨0, rfl, by omega, St.refl _ _ _⟩
  case round =>
    obtain ⟨j, rfl, hj, HS⟩ := hrel
    obtain ⟨wo, rfl⟩ : ∃ wo, wo = wr := ⟨_, rfl⟩
    by_cases hjn : j < n
    · have e1 : decide ((j : Int) < (n : Int)) = true := by simpa using hjn
      have hT := Ta.st HS.out H.out.1
      obtain ⟨k1, k2, k3, k4, cur, k5, k6, k7⟩ := hT.cells
      obtain ⟨⟨p, p1, p2⟩, -, -⟩ := k7 j hjn
      have HP : Hid (Ta b0 b1 d wo p) := p2
      clear hT k1 k2 k3 k4 k5 k6 k7 p2
      go_wp2_with fail
      refine (H.out.2 _ p HP.out).mono ?_
      rintro x w1 ⟨rfl, hS1⟩
      have HS1 : Hid (St b0 b1 w w1) := HS.out.trans hS1
      clear hS1 HS HP p1
      have hT := Ta.st HS1.out H.out.1
      obtain ⟨k1, k2, k3, k4, cur1, k5, k6, k7⟩ := hT.cells
      obtain ⟨-, ⟨x0, q0⟩, ⟨x1, q1⟩⟩ := k7 j hjn
      have f0 : w1.frozen? ⟨g, j * 8, none⟩ = false := by simp [World.frozen?, k5]
      have f1 : ∀ u, (w1.setCell ⟨g, j * 8, none⟩ u).frozen? ⟨g, j * 8 + 1, none⟩ = false := fun u => by simp [World.frozen?, cells_setS (j := j * 8) (u := u) k5]
      have q1' : ∀ u, (w1.setCell ⟨g, j * 8, none⟩ u).cell? ⟨g, j * 8 + 1, none⟩ = some x1 := fun u => by
        rw [World.cell?_setCell_other _ _ _ _ (by simp)]
        exact q1
      have HE : Hid (St b0 b1 w ((w1.setCell ⟨g, j * 8, none⟩ (.int .i64 N)).setCell ⟨g, j * 8 + 1, none⟩ (.int .i64 N))) :=
        (HS1.out.trans (St.set k5 k1 k2 (j * 8) _ (.inl (by omega)))).trans (St.set (cells_setS (j := j * 8) (u := .int .i64 N) k5) k1 k2 (j * 8 + 1) _ (.inl (by omega)))
      clear hT k1 k2 k3 k4 k5 k6 k7
      go_wp2
      exact ⟨⟨j + 1, by go_num, by omega, HE⟩, by simp [intOf]; omega⟩
    · have e1 : decide ((j : Int) < (n : Int)) = false := by simpa using hjn
      have hT := Ta.st HS.out H.out.1
      obtain ⟨k1, k2, k3, k4, cur, k5, k6, k7⟩ := hT.cells
      have HA : Hid (Ap b0 b1 w wo 58 8 (.slice (some ⟨g, 0, none⟩) n c) n) := .inr ⟨g, cur, n, c, rfl, k5, k6, k3, Nat.le_refl _, .inl ⟨k1, k2⟩⟩
      clear hT k1 k2 k3 k4 k5 k6 k7
      go_wp2_with fail
      go_loopw [0, 5] (fun v0 v5 wr2 => ∃ k : Nat, v5 = .int .i64 k ∧ k ≤ 9 ∧ Hid (Ap b0 b1 w wr2 58 8 v0 (n + k) ∧ St b0 b1 w wr2)) (fun _ v5 _ => 9 - (intOf v5).toNat)
      case atStart => exact ⟨0, rfl, by omega, HA.out, HS.out⟩
      case round =>
        obtain ⟨k, rfl, hk, H2⟩ := hrel
        obtain ⟨wq, rfl⟩ : ∃ wq, wq = wr := ⟨_, rfl⟩
        by_cases h9 : k = 9
        · subst h9
          go_wp2
          refine bodyPost_end (results_none rfl _ _ _) rfl ?_
          exact ⟨rfl, H2.out.2⟩
        · have e9 : decide ((k : Int) < 9) = true := by simp; omega
          have HA2 : Hid (Ap b0 b1 w (wq.alloc (.cells (mi1 (kI N)).toArray 58)) 58 8 u0 (n + k) ∧ St b0 b1 w (wq.alloc (.cells (mi1 (kI N)).toArray 58))) := ⟨H2.out.1.allocs _, H2.out.2.alloc _⟩
          go_wp2_with (first | (at_builtin; go_must (refine push_W rfl _ _ rfl b0 b1 w u0 (n + k) rfl HA2.out.1 HA2.out.2 wq.heap.size 1 (kI N) ⟨rfl, rfl, rfl⟩ rfl (World.alloc_heap_new _ _) (by omega) ?_); intro v' W' hA' hS') | fail)
          exact ⟨⟨k + 1, by go_num, by omega, hA', hS'⟩, by simp [intOf]; omega⟩
theorem writeR_any (b0 b1 : Nat) (N : Int) : ∀ (d : Nat) (w : World) (v : Value), Ta b0 b1 d w v → WC b0 b1 N w v
  | 0, w, v, h => by
    have e : v = .slice none 0 0 := h
    subst e
    exact write_nil b0 b1 N w
  | d + 1, w, v, h => by
    rcases h with rfl | ⟨g, cur, n, c, rfl, k⟩
    · exact write_nil b0 b1 N w
    · exact write_row b0 b1 N d (writeR_any b0 b1 N d) w g n c (.inr ⟨g, cur, n, c, rfl, k⟩)
end Go.Proofs
