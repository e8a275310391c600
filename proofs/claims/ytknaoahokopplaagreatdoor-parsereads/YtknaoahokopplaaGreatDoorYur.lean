/-
  The statement's own writing over lines.
-/
import Derived.Test.YtknaoahokopplaaGreatDoorMher
namespace Go.Proofs
open Go.RowKit Go.Shelf

set_option maxRecDepth 100000
attribute [local go_sem] Oper.semAt_some

/-- the blocks from b0 up to b1 may turn, all others stay -/
structure Fr (b0 b1 : Nat) (w w' : World) : Prop where
  os : w'.os = w.os
  tape : w'.tape = w.tape
  output : w'.output = w.output
  size : w.heap.size ≤ w'.heap.size
  out : ∀ g, g < w.heap.size → g < b0 ∨ b1 ≤ g → w'.heap[g]? = w.heap[g]?
theorem Fr.refl (b0 b1 : Nat) (w : World) : Fr b0 b1 w w := ⟨rfl, rfl, rfl, Nat.le_refl _, fun _ _ _ => rfl⟩
theorem St.fr {b0 b1 : Nat} {w w' : World} (h : St b0 b1 w w') : Fr b0 b1 w w' := ⟨h.os, h.tape, h.output, h.size, h.out⟩
theorem Fr.trans {b0 b1 : Nat} {w w' w'' : World} (h : Fr b0 b1 w w') (k : Fr b0 b1 w' w'') : Fr b0 b1 w w'' :=
  ⟨k.os.trans h.os, k.tape.trans h.tape, k.output.trans h.output, Nat.le_trans h.size k.size, fun g h1 h2 => (k.out g (by have := h.size; omega) h2).trans (h.out g h1 h2)⟩
theorem Fr.set {b0 b1 : Nat} {w W : World} (h : Fr b0 b1 w W) {g : Nat} (hg : b0 ≤ g ∧ g < b1 ∨ w.heap.size ≤ g) (j : Nat) (v : Value) : Fr b0 b1 w (W.setCell ⟨g, j, none⟩ v) :=
  ⟨h.os, h.tape, h.output, by simpa using h.size, fun k h1 h3 => (heap_set_other _ (by omega) _ _).trans (h.out k h1 h3)⟩
theorem Fr.of_below {b0 b1 : Nat} {w w' : World} (h : Below w.heap.size w w') : Fr b0 b1 w w' := (St.of_below h).fr
theorem Fr.alloc {b0 b1 : Nat} {w W : World} (h : Fr b0 b1 w W) (o : Obj) : Fr b0 b1 w (W.alloc o) := h.trans (Fr.of_below ((Below.refl _ W).alloc (Nat.le_refl _) o))
theorem Fr.grownN {b0 b1 : Nat} {w W W' : World} (h : Fr b0 b1 w W) (hg : W.grownBy W' none) : Fr b0 b1 w W' := h.trans (Fr.of_below ((Below.refl _ W).grown hg (Nat.le_refl _) (fun k hk => by cases hk)))
theorem Fr.below {b0 b1 : Nat} {w w' : World} (h : Fr b0 b1 w w') {N : Nat} (h1 : N ≤ b0) (h2 : N ≤ w.heap.size) : Below N w w' := ⟨h.os, h.tape, h.output, h.size, fun k hk => h.out k (by omega) (.inl (by omega))⟩
theorem Ta.same {b0 b1 : Nat} {w w' : World} (h : ∀ g cur, w.heap[g]? = some (.cells cur 58 (0, 0)) → b0 ≤ g → g < b1 → w'.heap[g]? = w.heap[g]?) : ∀ {d : Nat} {v : Value}, Ta b0 b1 d w v → Ta b0 b1 d w' v
  | 0, _, t => t
  | d + 1, v, t => by
    rcases t with t | ⟨g, cur, n, c, rfl, k1, k2, k3, k4, k5, k6, k7⟩
    · exact .inl t
    · exact .inr ⟨g, cur, n, c, rfl, k1, k2, (h g cur k3 k1 k2).trans k3, k4, k5, k6, fun j hj => (k7 j hj).imp fun p q => ⟨q.1, Ta.same h q.2⟩⟩
/-- lines whose rows may be gone through -/
def LT (b0 b1 : Nat) (w : World) (g n c : Nat) : Prop := b0 ≤ g ∧ g < b1 ∧ n ≤ c ∧ n ≤ 40000 ∧ ∃ cur, w.heap[g]? = some (.cells cur 44 (0, 0)) ∧ cur.size = c * 10 ∧ ∀ j, j < n → ∀ f, 5 ≤ f → f ≤ 8 → ∃ p, cur[j * 10 + f]? = some p ∧ Ta b0 b1 4 w p
theorem LT.st {b0 b1 : Nat} {w w' : World} {g n c : Nat} (h : LT b0 b1 w g n c) (s : St b0 b1 w w') : LT b0 b1 w' g n c := by
  obtain ⟨k1, k2, k3, k4, cur, k5, k6, k7⟩ := h
  refine ⟨k1, k2, k3, k4, cur, ?_, k6, fun j hj f h5 h8 => (k7 j hj f h5 h8).imp fun p q => ⟨q.1, Ta.st s q.2⟩⟩
  rcases s.blk g (Array.getElem?_eq_some_iff.1 k5).1 with e | ⟨c1, c2, e1, _⟩
  · exact e.trans k5
  · rw [k5] at e1; cases e1
theorem LT.same {b0 b1 : Nat} {w w' : World} {g n c : Nat} (h : LT b0 b1 w g n c) (s : ∀ k, k < w.heap.size → b0 ≤ k → k < b1 → w'.heap[k]? = w.heap[k]?) : LT b0 b1 w' g n c := by
  obtain ⟨k1, k2, k3, k4, cur, k5, k6, k7⟩ := h
  exact ⟨k1, k2, k3, k4, cur, (s g (Array.getElem?_eq_some_iff.1 k5).1 k1 k2).trans k5, k6, fun j hj f h5 h8 => (k7 j hj f h5 h8).imp fun p q => ⟨q.1, Ta.same (fun g' cur' e1 e2 e3 => s g' (Array.getElem?_eq_some_iff.1 e1).1 e2 e3) q.2⟩⟩
theorem LT.set {b0 b1 : Nat} {w : World} {g n c : Nat} (h : LT b0 b1 w g n c) (i : Nat) (v : Value) : LT b0 b1 (w.setCell ⟨g, i * 10 + 1, none⟩ v) g n c := by
  obtain ⟨k1, k2, k3, k4, cur, k5, k6, k7⟩ := h
  refine ⟨k1, k2, k3, k4, _, cells_setS k5, by simpa using k6, fun j hj f h5 h8 => ?_⟩
  obtain ⟨p, q1, q2⟩ := k7 j hj f h5 h8
  refine ⟨p, ?_, Ta.same (fun g' cur' e1 _ _ => heap_set_other _ (fun e => by subst e; rw [k5] at e1; cases e1) _ _) q2⟩
  rw [Array.getElem?_setIfInBounds, if_neg (by omega)]
  exact q1
theorem LT.cells {b0 b1 : Nat} {w : World} {g n c : Nat} (h : LT b0 b1 w g n c) {j : Nat} (hj : j < n) : (∃ x, w.cell? ⟨g, j * 10 + 1, none⟩ = some x) ∧ w.frozen? ⟨g, j * 10 + 1, none⟩ = false ∧ (∀ f, 5 ≤ f → f ≤ 8 → ∃ p, w.cell? ⟨g, j * 10 + f, none⟩ = some p ∧ Ta b0 b1 4 w p) := by
  obtain ⟨k1, k2, k3, k4, cur, k5, k6, k7⟩ := h
  refine ⟨⟨cur[j * 10 + 1]'(by omega), by simp only [World.cell?, k5]; exact Array.getElem?_eq_getElem _⟩, by simp [World.frozen?, k5], fun f h5 h8 => ?_⟩
  obtain ⟨p, q1, q2⟩ := k7 j hj f h5 h8
  exact ⟨p, by simp only [World.cell?, k5]; exact q1, q2⟩
theorem setCells_blk {b0 b1 : Nat} {w : World} {g : Nat} {T : TypeId} : ∀ (vs : List Value) (W : World) (cur : Array Value) (o : Nat), Fr b0 b1 w W → W.heap[g]? = some (.cells cur T (0, 0)) → (b0 ≤ g ∧ g < b1 ∨ w.heap.size ≤ g) →
    Fr b0 b1 w (W.setCells g o vs) ∧ ∃ cur', (W.setCells g o vs).heap[g]? = some (.cells cur' T (0, 0)) ∧ cur'.size = cur.size
  | [], W, cur, o, h, hg, _ => ⟨h, cur, hg, rfl⟩
  | v :: vs, W, cur, o, h, hg, hb => by
    obtain ⟨k1, cur', k2, k3⟩ := setCells_blk vs _ _ (o + 1) (h.set hb o v) (cells_setS (j := o) (u := v) hg) hb
    exact ⟨k1, cur', k2, by rw [k3]; simp⟩
set_option maxHeartbeats 1000000 in
/-- one line more behind a row that grows -/
theorem push_WL {ops : Array Oper} {rest : List Oper} {o : Oper} {a : Act} {Q : Exit → Act → World → Prop} {W : World} (hgd : o.guard = none) (s x : Operand)
    (ho : o.op = .call { callee := .builtin .append, args := #[s, x], argTypes := #[29, 29] })
    (b0 b1 : Nat) (w : World) (v : Value) (k : Nat) (hs : a.eval s = v) (hA : Ap b0 b1 w W 44 10 v k) (hS : Fr b0 b1 w W) (g c : Nat) (m : ML) (hx : a.eval x = .slice (some ⟨g, 0, none⟩) 1 c)
    (hy : W.heap[g]? = some (.cells (ml1 m).toArray 44 (0, 0))) (hk : k ≤ 100000)
    (h : ∀ v' W', Ap b0 b1 w W' 44 10 v' (k + 1) → Fr b0 b1 w W' → wpList Tryz.prog ops Q rest (a.put o.dst v') W') : wpList Tryz.prog ops Q (o :: rest) a W := by
  obtain ⟨i0, hi, hz0, hz1, hz2⟩ := info_parts info39
  have hc : ∀ j u, (ml1 m)[j]? = some u → W.cell? ((⟨g, 0, none⟩ : Addr).add j) = some u := fun j u hj => by
    rw [add_zero_at']
    simp only [World.cell?, hy]
    simpa using hj
  have h1c : ∀ u ∈ ml1 m, u.oneCell' = true := by
    intro u hu
    exact fl10_one [m] u (by simpa [fl10] using hu)
  have hnew : ∀ (xs : List Value) (n : Nat) (v' : Value) (W' : World), W'.ownsRow W.heap.size 44 10 v' (n + 1) xs → W.grownBy W' none → n ≤ k → wpList Tryz.prog ops Q rest (a.put o.dst v') W' := by
    intro xs n v' W' ho' hg' hn
    refine h v' W' ?_ (hS.grownN hg')
    rcases ho'.2 with ⟨_, h0⟩ | ⟨g', cap, cur, e, k1, k2, k3, k4, k5, k6⟩
    · omega
    · exact .inr ⟨g', cur, n + 1, cap, e, k2, k5, k3, by omega, .inr (by have := hS.size; omega)⟩
  rcases hA with rfl | ⟨g1, cur, n, c1, rfl, k1, k2, k3, k4, k5⟩
  · exact wpList_append_grows W hgd s x 29 ho 44 i0 _ 10 144 Tryz.underlying29 hi hz0 hz1 hz2 rfl (by decide) none 0 0 [] hs (fun _ => ⟨rfl, rfl⟩) rfl (fun b hb => by cases hb) ⟨g, 0, none⟩ 1 c (ml1 m) hx rfl hc h1c (by omega) (by decide) (by decide) (fun v' W' r1 r2 => hnew _ 0 v' W' r1 r2 (by omega))
  · have hlo : (cur.toList.take (n * 10)).length = n * 10 := by
      rw [List.length_take, Array.length_toList, k2]; omega
    refine wpList_append_arg W hgd s x 29 ho 44 i0 _ 10 144 Tryz.underlying29 hi hz0 hz1 hz2 rfl (by decide) g1 0 n c1 (cur.toList.take (n * 10)) hs hlo ?_ ⟨g, 0, none⟩ 1 c (ml1 m) hx rfl hc h1c ?_ (by unfold maxLen; omega) (by omega) (fun hr => ?_) (fun hr v' W' r1 r2 => hnew _ n v' W' r1 r2 (by omega))
    · intro j u hj
      rw [List.getElem?_take] at hj
      split at hj
      · simp only [World.cell?, k1, Nat.zero_add]
        simpa using hj
      · cases hj
    · intro hr j hj
      have hj8 : j < 10 := hj
      refine ⟨?_, by simp [World.frozen?, k1]⟩
      have hlt : n * 10 + j < cur.size := by rw [k2]; omega
      simp [World.cell?, k1, hlt]
    · obtain ⟨q1, cur', q2, q3⟩ := setCells_blk (ml1 m) W cur (0 + n * 10) hS k1 k5
      exact h _ _ (.inr ⟨g1, cur', n + 1, c1, rfl, q2, by rw [q3, k2], hr, by omega, k5⟩) q1
abbrev aL (N : Int) : ML := ⟨0, N, ⟨#[]⟩, false, false, noS, noS, noS, noS, 0⟩
/-- what writing over lines leaves -/
def OC (b0 b1 : Nat) (N : Int) (w : World) (v : Value) : Prop := Calls Tryz.prog 16 #[v, .int .i64 N] w fun x w' => x = .returned (.tuple #[]) ∧ Fr b0 b1 w w'
set_option maxHeartbeats 8000000 in
theorem over_nil (b0 b1 : Nat) (N : Int) (w : World) : OC b0 b1 N w (.slice none 0 0) := by
  unfold OC
  go_enter Tryz.func16, Tryz.ntmps16
  go_wp2_with fail
  go_loopw [4] (fun v4 wr => v4 = .int .i64 0 ∧ wr = w) (fun _ _ => 0)
  case atStart => exact ⟨rfl, rfl⟩
  case round =>
    obtain ⟨rfl, hw⟩ := hrel
    subst hw
    obtain ⟨wz, rfl⟩ : ∃ wz, wz = wr := ⟨_, rfl⟩
    go_wp2_with fail
    go_loopw [0, 5] (fun v0 v5 wr2 => ∃ k : Nat, v5 = .int .i64 k ∧ k ≤ 9 ∧ Hid (Ap b0 b1 wz wr2 44 10 v0 k ∧ Fr b0 b1 wz wr2)) (fun _ v5 _ => 9 - (intOf v5).toNat)
    case atStart => exact ⟨0, rfl, by omega, .inl rfl, Fr.refl _ _ _⟩
    case round =>
      obtain ⟨k, rfl, hk, H⟩ := hrel
      obtain ⟨wo, rfl⟩ : ∃ wo, wo = wr := ⟨_, rfl⟩
      by_cases h9 : k = 9
      · subst h9
        go_wp2
        refine bodyPost_end (results_none rfl _ _ _) rfl ?_
        exact ⟨rfl, H.out.2⟩
      · have e1 : decide ((k : Int) < 9) = true := by simp; omega
        have HA : Hid (Ap b0 b1 wz (wo.alloc (.cells (ml1 (aL N)).toArray 44)) 44 10 u0 k ∧ Fr b0 b1 wz (wo.alloc (.cells (ml1 (aL N)).toArray 44))) := ⟨H.out.1.allocs _, H.out.2.alloc _⟩
        go_wp2_with (first | (at_builtin; go_must (refine push_WL rfl _ _ rfl b0 b1 wz u0 k rfl HA.out.1 HA.out.2 wo.heap.size 1 (aL N) rfl (World.alloc_heap_new _ _) (by omega) ?_); intro v' W' hA' hS') | fail)
        exact ⟨⟨k + 1, by go_num, by omega, hA', hS'⟩, by simp [intOf]; omega⟩
set_option maxHeartbeats 8000000 in
theorem over_row (b0 b1 : Nat) (N : Int) (w : World) (g n c : Nat) (h : LT b0 b1 w g n c) (hN : 0 ≤ N ∧ N ≤ 1000) : OC b0 b1 N w (.slice (some ⟨g, 0, none⟩) n c) := by
  have hn1 := h.2.2.2.1
  have H : Hid (LT b0 b1 w g n c) := h
  clear h
  unfold OC
  go_enter Tryz.func16, Tryz.ntmps16
  go_wp2_with fail
  go_loopw [4] (fun v4 wr => ∃ j : Nat, v4 = .int .i64 j ∧ j ≤ n ∧ Hid (Fr b0 b1 w wr ∧ LT b0 b1 wr g n c)) (fun v4 _ => n - (intOf v4).toNat)
  case atStart => exact ⟨0, rfl, by omega, Fr.refl _ _ _, H.out⟩
  case round =>
    obtain ⟨j, rfl, hj, HS⟩ := hrel
    obtain ⟨wo, rfl⟩ : ∃ wo, wo = wr := ⟨_, rfl⟩
    by_cases hjn : j < n
    · have e1 : decide ((j : Int) < (n : Int)) = true := by simpa using hjn
      obtain ⟨p, p1, p2⟩ := (HS.out.2.cells hjn).2.2 5 (by omega) (by omega)
      have HP : Hid (Ta b0 b1 4 wo p) := p2
      clear p2
      go_wp2_with fail
      refine (writeR_any b0 b1 N 4 _ p HP.out).mono ?_
      rintro x w1 ⟨rfl, hS1⟩
      have HS1 : Hid (Fr b0 b1 w w1 ∧ LT b0 b1 w1 g n c) := ⟨HS.out.1.trans hS1.fr, HS.out.2.st hS1⟩
      clear hS1 HS HP p1
      obtain ⟨p, p1, p2⟩ := (HS1.out.2.cells hjn).2.2 6 (by omega) (by omega)
      have HP : Hid (Ta b0 b1 4 w1 p) := p2
      clear p2
      go_wp2_with fail
      refine (writeR_any b0 b1 (N + 1) 4 _ p HP.out).mono ?_
      rintro x w2 ⟨rfl, hS1⟩
      have HS2 : Hid (Fr b0 b1 w w2 ∧ LT b0 b1 w2 g n c) := ⟨HS1.out.1.trans hS1.fr, HS1.out.2.st hS1⟩
      clear hS1 HS1 HP p1
      obtain ⟨p, p1, p2⟩ := (HS2.out.2.cells hjn).2.2 7 (by omega) (by omega)
      have HP : Hid (Ta b0 b1 4 w2 p) := p2
      clear p2
      go_wp2_with fail
      refine (writeR_any b0 b1 (N + 2) 4 _ p HP.out).mono ?_
      rintro x w3 ⟨rfl, hS1⟩
      have HS3 : Hid (Fr b0 b1 w w3 ∧ LT b0 b1 w3 g n c) := ⟨HS2.out.1.trans hS1.fr, HS2.out.2.st hS1⟩
      clear hS1 HS2 HP p1
      obtain ⟨p, p1, p2⟩ := (HS3.out.2.cells hjn).2.2 8 (by omega) (by omega)
      have HP : Hid (Ta b0 b1 4 w3 p) := p2
      clear p2
      go_wp2_with fail
      refine (writeR_any b0 b1 (N + 3) 4 _ p HP.out).mono ?_
      rintro x w4 ⟨rfl, hS1⟩
      have HS4 : Hid (Fr b0 b1 w w4 ∧ LT b0 b1 w4 g n c) := ⟨HS3.out.1.trans hS1.fr, HS3.out.2.st hS1⟩
      clear hS1 HS3 HP p1
      obtain ⟨⟨x0, q0⟩, f0, -⟩ := HS4.out.2.cells hjn
      have HE : Hid (Fr b0 b1 w (w4.setCell ⟨g, j * 10 + 1, none⟩ (.int .i64 N)) ∧ LT b0 b1 (w4.setCell ⟨g, j * 10 + 1, none⟩ (.int .i64 N)) g n c) := ⟨HS4.out.1.set (.inl ⟨HS4.out.2.1, HS4.out.2.2.1⟩) _ _, HS4.out.2.set j _⟩
      go_wp2
      exact ⟨⟨j + 1, by go_num, by omega, HE⟩, by simp [intOf]; omega⟩
    · have e1 : decide ((j : Int) < (n : Int)) = false := by simpa using hjn
      obtain ⟨k1, k2, k3, k4, cur, k5, k6, k7⟩ := HS.out.2
      have HA : Hid (Ap b0 b1 w wo 44 10 (.slice (some ⟨g, 0, none⟩) n c) n) := .inr ⟨g, cur, n, c, rfl, k5, k6, k3, Nat.le_refl _, .inl ⟨k1, k2⟩⟩
      clear k1 k2 k3 k4 k5 k6 k7
      go_wp2_with fail
      go_loopw [0, 5] (fun v0 v5 wr2 => ∃ k : Nat, v5 = .int .i64 k ∧ k ≤ 9 ∧ Hid (Ap b0 b1 w wr2 44 10 v0 (n + k) ∧ Fr b0 b1 w wr2)) (fun _ v5 _ => 9 - (intOf v5).toNat)
      case atStart => exact ⟨0, rfl, by omega, HA.out, HS.out.1⟩
      case round =>
        obtain ⟨k, rfl, hk, H2⟩ := hrel
        obtain ⟨wq, rfl⟩ : ∃ wq, wq = wr := ⟨_, rfl⟩
        by_cases h9 : k = 9
        · subst h9
          go_wp2
          refine bodyPost_end (results_none rfl _ _ _) rfl ?_
          exact ⟨rfl, H2.out.2⟩
        · have e9 : decide ((k : Int) < 9) = true := by simp; omega
          have HA2 : Hid (Ap b0 b1 w (wq.alloc (.cells (ml1 (aL N)).toArray 44)) 44 10 u0 (n + k) ∧ Fr b0 b1 w (wq.alloc (.cells (ml1 (aL N)).toArray 44))) := ⟨H2.out.1.allocs _, H2.out.2.alloc _⟩
          go_wp2_with (first | (at_builtin; go_must (refine push_WL rfl _ _ rfl b0 b1 w u0 (n + k) rfl HA2.out.1 HA2.out.2 wq.heap.size 1 (aL N) rfl (World.alloc_heap_new _ _) (by omega) ?_); intro v' W' hA' hS') | fail)
          exact ⟨⟨k + 1, by go_num, by omega, hA', hS'⟩, by simp [intOf]; omega⟩
end Go.Proofs
