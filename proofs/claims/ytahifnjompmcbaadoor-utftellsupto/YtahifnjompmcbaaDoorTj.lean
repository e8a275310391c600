/-
  within, walked: a text's units gone through within themselves.
-/
import Derived.RangeFuncNested
import Derived.RangeFuncBound
import Derived.RangeFuncCalls
import Derived.RangeFuncLeaves
import Derived.Shelf.Abstract
import Derived.Shelf.RegionOpen
import Derived.WalkKit
import Derived.WalkSpells
import Derived.WalkLawsBesides
import Derived.OwnWalkIn
import Derived.TacticsInMore
import Derived.LoopNIn
import Derived.LoopIn
import Derived.BigQuiet
import Derived.RegionIn
import Derived.Deep.QuietTactic
import Derived.Lib.OthersKept
import Derived.Maps.AppendAt
import Derived.Lib.SmallJoins
import Derived.Lib.IndexBytes
import Derived.Laws.EntriesVeiled
import Derived.Test.YtahifnjompmcbaaDoorTb
import Derived.Test.YtahifnjompmcbaaDoorTi
namespace Go.Proofs
open Go.RowKit Go.Shelf

set_option maxRecDepth 100000
attribute [local go_sem] Oper.semAt_some

/-- how many units stand no further than a place -/
def cN (l : List (Nat × Nat)) (p : Nat) : Nat := (l.takeWhile (fun y => decide (y.1 ≤ p))).length
theorem sorted_units (s : ByteArray) : ∀ k p, (unitsN s k p).Pairwise (fun x y => x.1 < y.1)
  | 0, p => by simp [unitsN]
  | k + 1, p => by
    by_cases h : p < s.size
    · rw [unitsN_step s k p h, List.pairwise_cons]
      refine ⟨fun y hy => ?_, sorted_units s k _⟩
      have := unitsN_ge s k _ y hy
      have hu := uw_pos s p
      simp only; omega
    · rw [unitsN_end s _ p h]; exact List.Pairwise.nil
theorem cN_at {l : List (Nat × Nat)} (hl : l.Pairwise (fun x y => x.1 < y.1)) {k : Nat} (hk : k < l.length) : cN l (l[k]).1 = k + 1 := by
  unfold cN
  have e := List.take_append_drop (k + 1) l
  have h1 : ∀ y ∈ l.take (k + 1), decide (y.1 ≤ (l[k]).1) = true := by
    intro y hy
    rw [List.mem_take_iff_getElem] at hy
    obtain ⟨i, hi, rfl⟩ := hy
    rw [decide_eq_true_iff]
    by_cases h : i = k
    · subst h; exact Nat.le_refl _
    · have := List.pairwise_iff_getElem.1 hl i k (by omega) hk (by omega)
      omega
  have h2 : (l.drop (k + 1)).takeWhile (fun y => decide (y.1 ≤ (l[k]).1)) = [] := by
    by_cases h : k + 1 < l.length
    · rw [List.drop_eq_getElem_cons h]
      have := List.pairwise_iff_getElem.1 hl k (k + 1) hk h (by omega)
      rw [List.takeWhile_cons_of_neg (by simp; omega)]
    · rw [List.drop_of_length_le (by omega)]; rfl
  have h3 : l.takeWhile (fun y => decide (y.1 ≤ (l[k]).1)) = l.take (k + 1) ++ (l.drop (k + 1)).takeWhile (fun y => decide (y.1 ≤ (l[k]).1)) := by
    have := List.takeWhile_append_of_pos (p := fun y : Nat × Nat => decide (y.1 ≤ (l[k]).1)) (l₁ := l.take (k + 1)) (l₂ := l.drop (k + 1)) h1
    rw [e] at this
    exact this
  rw [h3, h2, List.append_nil, List.length_take]
  omega
theorem sum_cN {l : List (Nat × Nat)} (hl : l.Pairwise (fun x y => x.1 < y.1)) : ∀ k, k ≤ l.length → 2 * (((l.take k).map (fun x => cN l x.1)).sum) = k * (k + 1) := by
  intro k
  induction k with
  | zero => intro _; simp
  | succ k ih =>
    intro hk
    rw [List.take_succ_eq_append_getElem (by omega), List.map_append, List.sum_append, Nat.mul_add, ih (by omega)]
    simp only [List.map_cons, List.map_nil, List.sum_cons, List.sum_nil]
    rw [cN_at hl (by omega), Nat.add_zero, ← Nat.add_mul, Nat.mul_comm]
def cx {s : ByteArray} (x : UU s) : Int := (cN (units s) x.1.1 : Int)
def cnt {s : ByteArray} (pre : List (UU s)) : Int := (((vals pre).map (fun x => cN (units s) x.1)).sum : Nat)
theorem cnt_snoc {s : ByteArray} (pre : List (UU s)) (x : UU s) : cnt (pre ++ [x]) = cnt pre + cx x := by
  unfold cnt cx
  rw [vals_snoc, List.map_append, List.sum_append]
  simp
theorem cN_le (s : ByteArray) (p : Nat) : cN (units s) p ≤ s.size := by
  have h1 : cN (units s) p ≤ (units s).length := (List.takeWhile_sublist _).length_le
  have := units_len s
  omega
theorem cnt_le {s : ByteArray} : ∀ pre : List (UU s), 0 ≤ cnt pre ∧ cnt pre ≤ (s.size : Int) * pre.length := by
  intro pre
  refine ⟨by unfold cnt; omega, ?_⟩
  unfold cnt
  induction pre with
  | nil => simp [vals]
  | cons x l ih =>
    have h1 := cN_le s x.1.1
    have e : (vals (x :: l)).map (fun y => cN (units s) y.1) = cN (units s) x.1.1 :: (vals l).map (fun y => cN (units s) y.1) := by simp [vals]
    rw [e, List.sum_cons, List.length_cons]
    push_cast
    rw [Int.mul_add]
    omega
theorem cnt_all {s : ByteArray} {ys : List (UU s)} (h : vals ys = units s) : cnt ys = (((units s).length * ((units s).length + 1) / 2 : Nat) : Int) := by
  unfold cnt
  rw [h]
  have := sum_cN (sorted_units s s.size 0) (units s).length (Nat.le_refl _)
  rw [show List.take (units s).length (unitsN s s.size 0) = units s from List.take_length ..] at this
  have e : (unitsN s s.size 0) = units s := rfl
  rw [e] at this
  omega
theorem takeWhile_all {α : Type} {p : α → Bool} {l : List α} (h : ∀ a ∈ l, p a = true) : l.takeWhile p = l := by
  have := List.takeWhile_append_of_pos (p := p) (l₁ := l) (l₂ := []) h
  simpa using this
theorem cx_done {s : ByteArray} {x : UU s} {ys : List (UU s)} (h : vals ys = units s) (ha : ∀ y ∈ vals ys, y.1 ≤ x.1.1) : (ys.length : Int) = cx x := by
  unfold cx cN
  rw [← h, takeWhile_all (by intro y hy; simpa using ha y hy), vals_length]
theorem cx_stop {s : ByteArray} {x : UU s} {q : List (Nat × Nat)} {y : Nat × Nat} (h : q ++ [y] <+: units s) (ha : ∀ z ∈ q, z.1 ≤ x.1.1) (hy : x.1.1 < y.1) : (q.length : Int) = cx x := by
  unfold cx cN
  obtain ⟨t, ht⟩ := h
  rw [← ht, List.append_assoc, List.takeWhile_append_of_pos (by intro z hz; simpa using ha z hz), List.singleton_append, List.takeWhile_cons_of_neg (by simp; omega), List.append_nil]
/-- what within keeps in memory -/
def WI (s : ByteArray) (A : Nat) (c : Int) (W : World) : Prop := Boxed W A 3 (.int .i64 c) ∧ Boxed W (A + 1) 9 (.string s) ∧ Boxed W (A + 1 + 1) 47 (.func (.func 45) #[] #[.pointer (some ⟨A + 1, 0, none⟩)]) ∧ Boxed W (A + 1 + 1 + 1) 9 (.string s) ∧ Boxed W (A + 1 + 1 + 1 + 1) 47 (.func (.func 47) #[] #[.pointer (some ⟨A + 1 + 1 + 1, 0, none⟩)])
theorem WI_own (s : ByteArray) (A : Nat) {α : Type} (f : List α → Int) : Own (fun (p : List α) W => WI s A (f p) W) := fun _ _ _ _ h hg hr => ⟨boxed_kept h.1 hg hr, boxed_kept h.2.1 hg hr, boxed_kept h.2.2.1 hg hr, boxed_kept h.2.2.2.1 hg hr, boxed_kept h.2.2.2.2 hg hr⟩
theorem WI.alloc {s : ByteArray} {A : Nat} {c : Int} {W : World} (h : WI s A c W) (o : Obj) : WI s A c (W.alloc o) := ⟨h.1.alloc o, h.2.1.alloc o, h.2.2.1.alloc o, h.2.2.2.1.alloc o, h.2.2.2.2.alloc o⟩
theorem WI.set {s : ByteArray} {A : Nat} {c : Int} {W : World} (h : WI s A c W) (d : Int) : WI s A d (W.setCell ⟨A, 0, none⟩ (.int .i64 d)) := ⟨h.1.set _, h.2.1.other (by omega) _, h.2.2.1.other (by omega) _, h.2.2.2.1.other (by omega) _, h.2.2.2.2.other (by omega) _⟩
theorem kp_of {s : ByteArray} {A : Nat} {c d : Int} {W W' W0 : World} (h : WI s A c W) (h' : WI s A d W') (hb : Below A W W') (hk : KeepsFrom W0.heap.size W W') (h0 : W0.heap.size = A + 5) : KpA (A + 1) W W' := by
  refine ⟨⟨hb.size, fun k o hk1 hw => ?_⟩, fun v hv => ?_⟩
  · by_cases h1 : k < A
    · rw [hb.block k h1]; exact hk1
    · by_cases h2 : A + 5 ≤ k
      · exact hk.same k o (by omega) hk1 (by cases o <;> simp_all [Obj.isWalk, Obj.isCells])
      · exfalso
        rcases (show k = A ∨ k = A + 1 ∨ k = A + 1 + 1 ∨ k = A + 1 + 1 + 1 ∨ k = A + 1 + 1 + 1 + 1 by omega) with rfl | rfl | rfl | rfl | rfl
        · rw [show W.heap[k]? = _ from h.1] at hk1; cases hk1; simp [Obj.isWalk] at hw
        · rw [show W.heap[A + 1]? = _ from h.2.1] at hk1; cases hk1; simp [Obj.isWalk] at hw
        · rw [show W.heap[A + 1 + 1]? = _ from h.2.2.1] at hk1; cases hk1; simp [Obj.isWalk] at hw
        · rw [show W.heap[A + 1 + 1 + 1]? = _ from h.2.2.2.1] at hk1; cases hk1; simp [Obj.isWalk] at hw
        · rw [show W.heap[A + 1 + 1 + 1 + 1]? = _ from h.2.2.2.2] at hk1; cases hk1; simp [Obj.isWalk] at hw
  · rw [h.2.1.cell] at hv
    rw [h'.2.1.cell]; exact hv
set_option maxHeartbeats 8000000 in
theorem within_any (s : ByteArray) (w : World) (hs : s.size ≤ 240) :
    Calls Tryd.prog 14 #[.string s] w fun e w' => e = .returned (.int .i64 (((units s).length * ((units s).length + 1) / 2 : Nat) : Int)) ∧ Below w.heap.size w w' := by
  refine (callsIn_wide (n := 14)).1 ?_
  refine callsIn_of_wp_marks Tryd.func14 rfl trivial ?_ rfl
  simp only [Tryd.ntmps14, List.size_toArray, List.length_cons, List.length_nil, Nat.reduceAdd, Nat.reduceSub, Array.replicate_succ, Array.replicate_zero, List.push_toArray, List.append_toArray, List.nil_append, List.cons_append]
  gi_wp2_with (first | (refine ⟨trivial, ?_⟩; gi_at_call 33; refine (callsIn_wide.2 (all_any _ _)).mono ?_; rintro e w' ⟨rfl, rfl⟩) | (refine ⟨trivial, ?_⟩; gi_at_call 34; refine (callsIn_wide.2 (back_any _ _)).mono ?_; rintro e w' ⟨rfl, rfl⟩))
  obtain ⟨W0, hW0e⟩ : ∃ W0, ((((w.alloc (.cells #[.int .i64 0] 3)).alloc (.cells #[.string s] 9)).alloc (.cells #[.func (.func 45) #[] #[.pointer (some ⟨w.heap.size + 1, 0, none⟩)]] 47)).alloc (.cells #[.string s] 9)).alloc (.cells #[.func (.func 47) #[] #[.pointer (some ⟨w.heap.size + 1 + 1 + 1, 0, none⟩)]] 47) = W0 := ⟨_, rfl⟩
  have hWI0 : WI s w.heap.size 0 W0 := by
    have b0 := Boxed.new w 3 (.int .i64 0)
    have b1 := Boxed.new (w.alloc (.cells #[.int .i64 0] 3)) 9 (.string s)
    have b2 := Boxed.new ((w.alloc (.cells #[.int .i64 0] 3)).alloc (.cells #[.string s] 9)) 47 (.func (.func 45) #[] #[.pointer (some ⟨w.heap.size + 1, 0, none⟩)])
    have b3 := Boxed.new (((w.alloc (.cells #[.int .i64 0] 3)).alloc (.cells #[.string s] 9)).alloc (.cells #[.func (.func 45) #[] #[.pointer (some ⟨w.heap.size + 1, 0, none⟩)]] 47)) 9 (.string s)
    have b4 := Boxed.new ((((w.alloc (.cells #[.int .i64 0] 3)).alloc (.cells #[.string s] 9)).alloc (.cells #[.func (.func 45) #[] #[.pointer (some ⟨w.heap.size + 1, 0, none⟩)]] 47)).alloc (.cells #[.string s] 9)) 47 (.func (.func 47) #[] #[.pointer (some ⟨w.heap.size + 1 + 1 + 1, 0, none⟩)])
    simp only [World.size_alloc] at b1 b2 b3 b4
    rw [← hW0e]
    exact ⟨(((b0.alloc _).alloc _).alloc _).alloc _, ((b1.alloc _).alloc _).alloc _, (b2.alloc _).alloc _, b3.alloc _, b4⟩
  have hB0 : Below w.heap.size w W0 := by rw [← hW0e]; exact (((((Below.refl _ w).alloc (Nat.le_refl _) _).alloc (by simp) _).alloc (by simp; omega) _).alloc (by simp; omega) _).alloc (by simp; omega) _
  have hW0 : W0.heap.size = w.heap.size + 5 := by rw [← hW0e]; simp
  rw [hW0e]
  clear hW0e
  refine wpIn_rangeFunc_ownH rfl (by omega) (gf := 45) (lb := #[.pointer (some ⟨w.heap.size + 1, 0, none⟩)]) rfl trivial (enters_of Tryd.func45 (by kernel_rfl) rfl)
    (all_stops 13 (by omega) (w.heap.size + 1) s (by unfold maxLen; omega) W0 hWI0.2.1.lt hWI0.2.1.cell) kpA_t kpA_b (Below.refl _ _) (fun _ => rfl)
    (fun pre W => WI s w.heap.size (cnt pre) W ∧ Below w.heap.size w W)
    (fun _ _ _ => False)
    (OwnFrom.and (Own.from (WI_own _ _ _) _) (ownFrom_below (Nat.le_refl _) (by omega)))
    (fun _ _ _ _ _ hs _ _ => hs)
    ⟨hWI0, hB0⟩
    (fun x a' W => ∃ Bx, w.heap.size + 1 + 1 + 1 + 1 < Bx ∧ Boxed W Bx 3 (.int .i64 x.1.1) ∧ a' = { tmps := #[.string s, undef, .int .i64 0, .pointer (some ⟨w.heap.size, 0, none⟩), .pointer (some ⟨w.heap.size + 1 + 1, 0, none⟩), .pointer (some ⟨w.heap.size + 1 + 1 + 1 + 1, 0, none⟩), .pointer (some ⟨Bx, 0, none⟩), undef, .string s, .func (.func 45) #[] #[.pointer (some ⟨w.heap.size + 1, 0, none⟩)], .string s, .func (.func 47) #[] #[.pointer (some ⟨w.heap.size + 1 + 1 + 1, 0, none⟩)], .func (.func 45) #[] #[.pointer (some ⟨w.heap.size + 1, 0, none⟩)], .int .i64 x.1.1, .int .i64 x.1.2, undef, undef, undef, undef, undef, undef, undef, undef, undef, undef, undef, undef], defers := [] })
    (fun x a' _ X Y row hs hg hr => by obtain ⟨Bx, h1, h2, h3⟩ := hs; exact ⟨Bx, h1, boxed_own Bx 3 (fun (_ : Unit) => Value.int .i64 x.1.1) () X Y row h2 hg (fun r e => (hr r e).2), h3⟩)
    ?assign ?body ?done ?stop
  case assign =>
    rintro l pre x W K ⟨hWI1, hB1⟩ hK
    gi_wp2
    exact hK _ _ ((KeepsOthers.alloc _ _).from _) (kpA_of (KeepsOthers.alloc _ _) (fun v hv => cell_up hv _)) ⟨hWI1.alloc _, hB1.alloc hB1.size _⟩ ⟨W.heap.size, hWI1.2.2.2.2.lt, Boxed.new W 3 _, rfl⟩
  case body =>
    rintro l pre x a' W hl ⟨r, hr⟩ ⟨hWI1, hB1⟩ ⟨Bx, hBx, bX, rfl⟩ hlt
    have cL := hWI1.2.2.1.cell
    have hsW := hB1.size
    have hcn := cnt_le pre
    have hlW : W0.heap.size ≤ W.heap.size := by have := hWI1.2.2.2.2.lt; omega
    have hcb : cnt pre ≤ 57600 := by
      have h1 : (s.size : Int) * (pre.length : Int) ≤ 240 * 240 := by
        have a1 : (s.size : Int) ≤ 240 := by omega
        have a2 : (pre.length : Int) ≤ 240 := by omega
        exact Int.le_trans (Int.mul_le_mul_of_nonneg_right a1 (by omega)) (Int.mul_le_mul_of_nonneg_left a2 (by omega))
      omega
    gi_wp2
    refine wpIn_rangeFunc_ownN (l₀ := l) (r₀ := r) rfl hr (by omega) (gf := 45) (lb := #[.pointer (some ⟨w.heap.size + 1, 0, none⟩)]) rfl trivial (enters_of Tryd.func45 (by kernel_rfl) rfl)
      ((all_stops 11 (by omega) (w.heap.size + 1) s (by unfold maxLen; omega) W hWI1.2.1.lt hWI1.2.1.cell).inRound l) kpA_t kpA_b (Below.refl _ _) (fun _ => rfl)
      (fun pre' W' => (WI s w.heap.size (cnt pre + pre'.length) W' ∧ Boxed W' Bx 3 (.int .i64 x.1.1)) ∧ ((∀ y ∈ vals pre', y.1 ≤ x.1.1) ∧ (Below w.heap.size W W' ∧ KeepsFrom W0.heap.size W W')))
      (fun c pre' W' => (c = .exit 2 ∧ ∃ q y, vals pre' = q ++ [y] ∧ (∀ z ∈ q, z.1 ≤ x.1.1) ∧ x.1.1 < y.1 ∧ WI s w.heap.size (cnt pre + q.length) W') ∧ (Below w.heap.size W W' ∧ KeepsFrom W0.heap.size W W'))
      (OwnFrom.and (OwnFrom.and (Own.from (WI_own _ _ _) _) (Own.from (boxed_own _ _ _) _)) (OwnFrom.and (ownFrom_pure _ _) (OwnFrom.and (ownFrom_below hsW (by omega)) (ownFrom_keepsFrom (by omega)))))
      (fun c => OwnFrom.and (Own.from (fun p X Y row hs hg hr => by obtain ⟨h1, q, y, h2, h3, h4, h5⟩ := hs; exact ⟨h1, q, y, h2, h3, h4, WI_own s w.heap.size (fun (_ : List (UU s)) => cnt pre + q.length) p X Y row h5 hg hr⟩) _) (OwnFrom.and (ownFrom_below hsW (by omega)) (ownFrom_keepsFrom (by omega))))
      ⟨⟨by simpa using hWI1, bX⟩, by simp [vals], Below.refl _ _, KeepsFrom.refl _ _⟩
      (fun y a'' _ => a'' = { tmps := #[.string s, undef, .int .i64 0, .pointer (some ⟨w.heap.size, 0, none⟩), .pointer (some ⟨w.heap.size + 1 + 1, 0, none⟩), .pointer (some ⟨w.heap.size + 1 + 1 + 1 + 1, 0, none⟩), .pointer (some ⟨Bx, 0, none⟩), .int .i64 y.1.1, .string s, .func (.func 45) #[] #[.pointer (some ⟨w.heap.size + 1, 0, none⟩)], .string s, .func (.func 47) #[] #[.pointer (some ⟨w.heap.size + 1 + 1 + 1, 0, none⟩)], .func (.func 45) #[] #[.pointer (some ⟨w.heap.size + 1, 0, none⟩)], .int .i64 x.1.1, .int .i64 x.1.2, .func (.func 45) #[] #[.pointer (some ⟨w.heap.size + 1, 0, none⟩)], .int .i64 y.1.1, .int .i64 y.1.2, undef, undef, undef, undef, undef, undef, undef, undef, undef], defers := [] })
      (fun _ _ _ _ _ _ hs _ _ => hs)
      ?assign2 ?body2 ?done2 ?stop2
    case assign2 =>
      rintro l2 pre' y W' K hi hK
      gi_wp2
      exact hK _ _ (KeepsFrom.refl _ _) ⟨KeepsWalks.refl _, fun v hv => hv⟩ hi rfl
    case body2 =>
      rintro l2 pre' y a'' W' _ _ ⟨⟨hWI2, bX2⟩, hall, hBW, hKF⟩ rfl hlt2
      have HALL : Hid (∀ y ∈ vals pre', y.1 ≤ x.1.1) := hall
      have cS := hWI2.1.cell
      have fS := hWI2.1.frozen
      have cX := bX2.cell
      clear hall
      by_cases hyx : x.1.1 < y.1.1
      · have d1 : decide ((x.1.1 : Int) < (y.1.1 : Int)) = true := by rw [decide_eq_true_iff]; omega
        have d2 : decide (x.1.1 < y.1.1) = true := by rw [decide_eq_true_iff]; omega
        gi_wp2
        exact ⟨KeepsFrom.refl _ _, ⟨rfl, vals pre', y.1, vals_snoc pre' y, HALL.out, hyx, by rw [vals_length]; exact hWI2⟩, hBW, hKF⟩
      · have d1 : decide ((x.1.1 : Int) < (y.1.1 : Int)) = false := by rw [decide_eq_false_iff_not]; omega
        have d2 : decide (x.1.1 < y.1.1) = false := by rw [decide_eq_false_iff_not]; omega
        have hpl : (pre'.length : Int) ≤ 240 := by omega
        gi_wp2
        have hn2 := hWI2.set (cnt pre + pre'.length + 1)
        exact ⟨(KeepsOthers.setCell _ _ _).from _, kpA_of (KeepsOthers.setCell _ _ _) (fun v hv => by rw [hWI2.2.1.cell] at hv; rw [hn2.2.1.cell]; exact hv),
          ⟨by rw [List.length_append, List.length_singleton, show cnt pre + ((pre'.length + 1 : Nat) : Int) = cnt pre + pre'.length + 1 by omega]; exact hn2, bX2.other (by omega) _⟩,
          (fun z hz => by rw [vals_snoc, List.mem_append, List.mem_singleton] at hz; rcases hz with hz | rfl; exact HALL.out z hz; omega),
          hBW.setCell (p := ⟨w.heap.size, 0, none⟩) (Nat.le_refl _) _, hKF.trans ((KeepsOthers.setCell _ _ _).from _)⟩
    case done2 =>
      rintro ys' W' hys ⟨⟨hWI', bX2⟩, hall, hBW, hKF⟩
      have hWI : WI s w.heap.size (cnt pre + cx x) W' := by rw [← cx_done hys hall]; exact hWI'
      have hr2 : W'.heap[l]? = some (.loop r) := hKF.same l _ (by omega) hr rfl
      have hlW' : W.heap.size ≤ W'.heap.size := hBW.size
      clear hWI' bX2 hall hys
      have cM := hWI.2.2.2.2.cell
      gi_wp2
      refine wpIn_rangeFunc_ownN (l₀ := l) (r₀ := r) rfl hr2 (by omega) (gf := 47) (lb := #[.pointer (some ⟨w.heap.size + 1 + 1 + 1, 0, none⟩)]) rfl trivial (enters_of Tryd.func47 (by kernel_rfl) rfl)
        ((back_stops 11 (by omega) (w.heap.size + 1 + 1 + 1) s (by unfold maxLen; omega) W' hWI.2.2.2.1.lt hWI.2.2.2.1.cell).inRound l) kpA_t kpA_b (Below.refl _ _) (fun _ => rfl)
        (fun _ W3 => WI s w.heap.size (cnt pre + cx x) W3 ∧ Below w.heap.size W W3 ∧ KeepsFrom W0.heap.size W W3)
        (fun c _ W3 => c = .exit 4 ∧ WI s w.heap.size (cnt pre + cx x) W3 ∧ Below w.heap.size W W3 ∧ KeepsFrom W0.heap.size W W3)
        (OwnFrom.and (Own.from (WI_own _ _ _) _) (OwnFrom.and (ownFrom_below hsW (by omega)) (ownFrom_keepsFrom (by omega))))
        (fun c p3 X Y row hs hg hr' => ⟨hs.1, (OwnFrom.and (Own.from (WI_own s w.heap.size (fun (_ : List (UU s)) => cnt pre + cx x)) _) (OwnFrom.and (ownFrom_below hsW (by omega)) (ownFrom_keepsFrom (by omega)))) p3 X Y row hs.2 hg hr'⟩)
        ⟨hWI, hBW, hKF⟩
        (fun z a3 _ => a3 = { tmps := #[.string s, undef, .int .i64 0, .pointer (some ⟨w.heap.size, 0, none⟩), .pointer (some ⟨w.heap.size + 1 + 1, 0, none⟩), .pointer (some ⟨w.heap.size + 1 + 1 + 1 + 1, 0, none⟩), .pointer (some ⟨Bx, 0, none⟩), undef, .string s, .func (.func 45) #[] #[.pointer (some ⟨w.heap.size + 1, 0, none⟩)], .string s, .func (.func 47) #[] #[.pointer (some ⟨w.heap.size + 1 + 1 + 1, 0, none⟩)], .func (.func 45) #[] #[.pointer (some ⟨w.heap.size + 1, 0, none⟩)], .int .i64 x.1.1, .int .i64 x.1.2, .func (.func 45) #[] #[.pointer (some ⟨w.heap.size + 1, 0, none⟩)], undef, undef, undef, undef, undef, undef, undef, .func (.func 47) #[] #[.pointer (some ⟨w.heap.size + 1 + 1 + 1, 0, none⟩)], .int .i64 z.1.1, .int .i64 z.1.2, undef], defers := [] })
        (fun _ _ _ _ _ _ hs _ _ => hs)
        ?assign3 ?body3 ?done3 ?stop3
      case assign3 =>
        rintro l3 p3 z W3 K hi hK
        gi_wp2
        exact hK _ _ (KeepsFrom.refl _ _) ⟨KeepsWalks.refl _, fun v hv => hv⟩ hi (by simp [encU, Array.zip, Array.zipWith, Array.zipWithMAux])
      case body3 =>
        rintro l3 p3 z a3 W3 _ _ hi rfl _
        gi_wp2
        exact ⟨KeepsFrom.refl _ _, rfl, hi⟩
      case done3 =>
        rintro zs W3 _ ⟨hWI3, hBW3, hKF3⟩
        gi_wp2
        exact ⟨hKF3, kp_of hWI1 hWI3 hBW3 hKF3 hW0, ⟨by rw [cnt_snoc]; exact hWI3, hB1.trans (hBW3.mono (Nat.le_refl _))⟩⟩
      case stop3 =>
        rintro c p3 W3 _ ⟨rfl, hWI3, hBW3, hKF3⟩
        gi_wp2
        exact ⟨hKF3, kp_of hWI1 hWI3 hBW3 hKF3 hW0, ⟨by rw [cnt_snoc]; exact hWI3, hB1.trans (hBW3.mono (Nat.le_refl _))⟩⟩
    case stop2 =>
      rintro c pre' W' hsp ⟨⟨rfl, q, y, hq, hqa, hyx, hWI'⟩, hBW, hKF⟩
      have hWI : WI s w.heap.size (cnt pre + cx x) W' := by
        have : (q.length : Int) = cx x := cx_stop (by rw [← hq]; exact hsp.1) hqa hyx
        rw [← this]; exact hWI'
      have hr2 : W'.heap[l]? = some (.loop r) := hKF.same l _ (by omega) hr rfl
      have hlW' : W.heap.size ≤ W'.heap.size := hBW.size
      clear hWI' hsp hq hqa hyx
      have cM := hWI.2.2.2.2.cell
      gi_wp2
      refine wpIn_rangeFunc_ownN (l₀ := l) (r₀ := r) rfl hr2 (by omega) (gf := 47) (lb := #[.pointer (some ⟨w.heap.size + 1 + 1 + 1, 0, none⟩)]) rfl trivial (enters_of Tryd.func47 (by kernel_rfl) rfl)
        ((back_stops 11 (by omega) (w.heap.size + 1 + 1 + 1) s (by unfold maxLen; omega) W' hWI.2.2.2.1.lt hWI.2.2.2.1.cell).inRound l) kpA_t kpA_b (Below.refl _ _) (fun _ => rfl)
        (fun _ W3 => WI s w.heap.size (cnt pre + cx x) W3 ∧ Below w.heap.size W W3 ∧ KeepsFrom W0.heap.size W W3)
        (fun c _ W3 => c = .exit 4 ∧ WI s w.heap.size (cnt pre + cx x) W3 ∧ Below w.heap.size W W3 ∧ KeepsFrom W0.heap.size W W3)
        (OwnFrom.and (Own.from (WI_own _ _ _) _) (OwnFrom.and (ownFrom_below hsW (by omega)) (ownFrom_keepsFrom (by omega))))
        (fun c p3 X Y row hs hg hr' => ⟨hs.1, (OwnFrom.and (Own.from (WI_own s w.heap.size (fun (_ : List (UU s)) => cnt pre + cx x)) _) (OwnFrom.and (ownFrom_below hsW (by omega)) (ownFrom_keepsFrom (by omega)))) p3 X Y row hs.2 hg hr'⟩)
        ⟨hWI, hBW, hKF⟩
        (fun z a3 _ => a3 = { tmps := #[.string s, undef, .int .i64 0, .pointer (some ⟨w.heap.size, 0, none⟩), .pointer (some ⟨w.heap.size + 1 + 1, 0, none⟩), .pointer (some ⟨w.heap.size + 1 + 1 + 1 + 1, 0, none⟩), .pointer (some ⟨Bx, 0, none⟩), undef, .string s, .func (.func 45) #[] #[.pointer (some ⟨w.heap.size + 1, 0, none⟩)], .string s, .func (.func 47) #[] #[.pointer (some ⟨w.heap.size + 1 + 1 + 1, 0, none⟩)], .func (.func 45) #[] #[.pointer (some ⟨w.heap.size + 1, 0, none⟩)], .int .i64 x.1.1, .int .i64 x.1.2, .func (.func 45) #[] #[.pointer (some ⟨w.heap.size + 1, 0, none⟩)], undef, undef, undef, undef, undef, undef, undef, .func (.func 47) #[] #[.pointer (some ⟨w.heap.size + 1 + 1 + 1, 0, none⟩)], .int .i64 z.1.1, .int .i64 z.1.2, undef], defers := [] })
        (fun _ _ _ _ _ _ hs _ _ => hs)
        ?assign3 ?body3 ?done3 ?stop3
      case assign3 =>
        rintro l3 p3 z W3 K hi hK
        gi_wp2
        exact hK _ _ (KeepsFrom.refl _ _) ⟨KeepsWalks.refl _, fun v hv => hv⟩ hi (by simp [encU, Array.zip, Array.zipWith, Array.zipWithMAux])
      case body3 =>
        rintro l3 p3 z a3 W3 _ _ hi rfl _
        gi_wp2
        exact ⟨KeepsFrom.refl _ _, rfl, hi⟩
      case done3 =>
        rintro zs W3 _ ⟨hWI3, hBW3, hKF3⟩
        gi_wp2
        exact ⟨hKF3, kp_of hWI1 hWI3 hBW3 hKF3 hW0, ⟨by rw [cnt_snoc]; exact hWI3, hB1.trans (hBW3.mono (Nat.le_refl _))⟩⟩
      case stop3 =>
        rintro c p3 W3 _ ⟨rfl, hWI3, hBW3, hKF3⟩
        gi_wp2
        exact ⟨hKF3, kp_of hWI1 hWI3 hBW3 hKF3 hW0, ⟨by rw [cnt_snoc]; exact hWI3, hB1.trans (hBW3.mono (Nat.le_refl _))⟩⟩
  case done =>
    rintro D zs W hD hzs ⟨hWI1, hB1⟩ hK
    have cS := hWI1.1.cell
    have HZ : Hid (cnt zs = (((units s).length * ((units s).length + 1) / 2 : Nat) : Int)) := cnt_all hzs
    clear hzs
    gi_wp2
    refine ⟨by simp, .inl ⟨_, _, rfl, run_takeDeferred hK, ?_⟩⟩
    exact ⟨_, results_tmp rfl _ _ _, by rw [← HZ.out]; rfl, hB1.trans (belowK_b (w := w) (Nat.le_refl _) W D _ _ (by omega) hK rfl rfl)⟩
  case stop =>
    rintro D c pre W _ _ h _
    exact h.elim
end Go.Proofs
