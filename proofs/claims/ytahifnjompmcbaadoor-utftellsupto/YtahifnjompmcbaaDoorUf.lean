/-
  Border does what the plain function below says.
-/
import Derived.RangeFuncNested
import Derived.RangeFuncBound
import Derived.RangeFuncCalls
import Derived.RangeFuncLeaves
import Derived.Shelf.Abstract
import Derived.Shelf.RegionOpen
import Derived.WalkKit
import Derived.WalkSpells
import Derived.WalkLawsBesides
import Derived.OwnWalkIn
import Derived.TacticsInMore
import Derived.LoopNIn
import Derived.LoopIn
import Derived.BigQuiet
import Derived.RegionIn
import Derived.Deep.QuietTactic
import Derived.Lib.OthersKept
import Derived.Lib.IndexBytes
import Derived.Lib.ConvBytes
import Derived.Test.YtahifnjompmcbaaDoorUc
namespace Go.Proofs
open Go.RowKit Go.Shelf

set_option maxRecDepth 100000
attribute [local go_sem] Oper.semAt_some
/-! Border -/
def borderU (s : ByteArray) (p : Nat) : Bool := (units (s.extract (p - 3) (min s.size (p + 3)))).any (fun x => p - 3 + x.1 == p) || p == s.size
set_option maxHeartbeats 1000000 in
theorem border_out (s : ByteArray) (p : Int) (w : World) (h : p < 0 ∨ (s.size : Int) < p) : Calls Tryd.prog 31 #[.string s, .int .i64 p] w fun e w' => e = .returned (.bool false) ∧ Below w.heap.size w w' := by
  by_cases a : p < 0
  · have hg : decide (p < 0) = true := by simpa using a
    go_enter Tryd.func31, Tryd.ntmps31
    go_wp2
    exact bodyPost_ret (v := .bool false) (by simp [results, Tryd.f31, go_sem]) rfl ⟨rfl, ((Below.refl _ _).alloc (Nat.le_refl _) _).alloc (by simp) _⟩
  · have hg : decide (p < 0) = false := by simpa using a
    have hg : decide ((s.size : Int) < p) = true := by simp; omega
    go_enter Tryd.func31, Tryd.ntmps31
    go_wp2
    exact bodyPost_ret (v := .bool false) (by simp [results, Tryd.f31, go_sem]) rfl ⟨rfl, ((Below.refl _ _).alloc (Nat.le_refl _) _).alloc (by simp) _⟩
set_option maxHeartbeats 1000000 in
theorem border_in (s : ByteArray) (p : Nat) (w : World) (hs : s.size ≤ 4611686018427387904) (hp : p ≤ s.size) : Calls Tryd.prog 31 #[.string s, .int .i64 p] w fun e w' => e = .returned (.bool (borderU s p)) ∧ Below w.heap.size w w' := by
  obtain ⟨q, hq⟩ : ∃ q : Int, q = p := ⟨_, rfl⟩
  rw [← hq]
  have hq0 : 0 ≤ q := by omega
  have hq1 : q ≤ s.size := by omega
  have hg1 : decide (q < 0) = false := by simp; omega
  have hg2 : decide ((s.size : Int) < q) = false := by simp; omega
  have HQ : Hid (q = p) := hq
  clear hq
  refine (callsIn_wide (n := 5)).1 ?_
  refine callsIn_of_wp_marks Tryd.func31 rfl trivial ?_ rfl
  simp only [Tryd.ntmps31, List.size_toArray, List.length_cons, List.length_nil, Nat.reduceAdd, Nat.reduceSub, Array.replicate_succ, Array.replicate_zero, List.push_toArray, List.append_toArray, List.nil_append, List.cons_append]
  gi_wp2_with fail
  gi_region
  gi_wp2_with (refine ⟨trivial, ?_⟩; gi_at_call 33; refine (callsIn_wide.2 (all_any _ _)).mono ?_; rintro e w' ⟨rfl, rfl⟩)
  obtain ⟨t, ht⟩ : ∃ t, s.extract (max 0 (q - 3)).toNat (min (s.size : Int) (q + 3)).toNat = t := ⟨_, rfl⟩
  have hf0 : 0 ≤ max 0 (q - 3) := by omega
  have hf1 : max 0 (q - 3) ≤ q := by omega
  have HT : Hid (t = s.extract (p - 3) (min s.size (p + 3)) ∧ max 0 (q - 3) = ((p - 3 : Nat) : Int)) := by
    have e1 := HQ.out
    refine ⟨?_, by omega⟩
    rw [← ht]; congr 1 <;> omega
  have htl : t.size ≤ 4611686018427387904 := by rw [← ht]; simp [ByteArray.size_extract]; omega
  rw [ht]
  clear ht
  obtain ⟨g, hg⟩ : ∃ g, min (s.size : Int) (q + 3) = g := ⟨_, rfl⟩
  rw [hg]
  clear hg
  generalize max 0 (q - 3) = f at HT hf0 hf1 ⊢
  have b0 : Boxed (w.alloc (.cells #[.int .i64 q] 3)) w.heap.size 3 (.int .i64 q) := Boxed.new _ _ _
  have b1 : Boxed ((w.alloc (.cells #[.int .i64 q] 3)).alloc (.cells #[.bool false] 4)) (w.heap.size + 1) 4 (.bool false) := by have := Boxed.new (w.alloc (.cells #[.int .i64 q] 3)) 4 (.bool false); rwa [World.size_alloc] at this
  have b2 : Boxed (((w.alloc (.cells #[.int .i64 q] 3)).alloc (.cells #[.bool false] 4)).alloc (.cells #[.int .i64 f] 3)) (w.heap.size + 1 + 1) 3 (.int .i64 f) := by have := Boxed.new ((w.alloc (.cells #[.int .i64 q] 3)).alloc (.cells #[.bool false] 4)) 3 (.int .i64 f); rwa [World.size_alloc, World.size_alloc] at this
  have b3 : Boxed ((((w.alloc (.cells #[.int .i64 q] 3)).alloc (.cells #[.bool false] 4)).alloc (.cells #[.int .i64 f] 3)).alloc (.cells #[.string t] 9)).drew (w.heap.size + 1 + 1 + 1) 9 (.string t) := by have := Boxed.new (((w.alloc (.cells #[.int .i64 q] 3)).alloc (.cells #[.bool false] 4)).alloc (.cells #[.int .i64 f] 3)) 9 (.string t); rwa [World.size_alloc, World.size_alloc, World.size_alloc] at this
  have hB0 : Below w.heap.size w ((((w.alloc (.cells #[.int .i64 q] 3)).alloc (.cells #[.bool false] 4)).alloc (.cells #[.int .i64 f] 3)).alloc (.cells #[.string t] 9)).drew := (((((Below.refl _ w).alloc (Nat.le_refl _) _).alloc (by simp) _).alloc (by simp; omega) _).alloc (by simp; omega) _).drew
  refine wpIn_rangeFunc_ownF rfl (by omega) (gf := 45) (lb := #[.pointer (some ⟨w.heap.size + 1 + 1 + 1, 0, none⟩)]) rfl trivial (enters_of Tryd.func45 (by kernel_rfl) rfl)
    (all_stops 4 (by omega) (w.heap.size + 1 + 1 + 1) t (by unfold maxLen; omega) _ (by simp) b3.cell) kpA_t kpA_b (Below.refl _ _) (fun _ => rfl)
    (fun pre W => ((∀ x ∈ vals pre, f + (x.1 : Int) ≠ q) ∧ Boxed W w.heap.size 3 (.int .i64 q) ∧ Boxed W (w.heap.size + 1) 4 (.bool false) ∧ Boxed W (w.heap.size + 1 + 1) 3 (.int .i64 f)) ∧ Below w.heap.size w W)
    (fun c pre W => (c = .ret ∧ (∃ x ∈ vals pre, f + (x.1 : Int) = q) ∧ Boxed W (w.heap.size + 1) 4 (.bool true)) ∧ Below w.heap.size w W)
    (OwnFrom.and (Own.from (fun s A B row hs hg hr => ⟨hs.1, boxed_kept hs.2.1 hg hr, boxed_kept hs.2.2.1 hg hr, boxed_kept hs.2.2.2 hg hr⟩) _) (ownFrom_below (Nat.le_refl _) (by simp; omega)))
    (fun c => OwnFrom.and (Own.from (fun s A B row hs hg hr => ⟨hs.1, hs.2.1, boxed_kept hs.2.2 hg hr⟩) _) (ownFrom_below (Nat.le_refl _) (by simp; omega)))
    ⟨⟨by simp [vals], ((b0.alloc _).alloc _).alloc _, (b1.alloc _).alloc _, b2.alloc _⟩, hB0⟩
    (fun x => { tmps := #[.string s, .int .i64 q, undef, .pointer (some ⟨w.heap.size, 0, none⟩), .pointer (some ⟨w.heap.size + 1, 0, none⟩), .pointer (some ⟨w.heap.size + 1 + 1, 0, none⟩), .int .i64 g, .int .i64 x.1.1, .int .i64 q, .bool false, .bool false, .int .i64 q, .string s, .int .i64 s.size, .bool false, .bool false, .int .i64 q, .int .i64 (q - 3), .int .i64 f, .string s, .int .i64 s.size, .int .i64 q, .int .i64 (q + 3), .int .i64 g, .string s, .int .i64 f, .int .i64 g, .string t, .func (.func 45) #[] #[.pointer (some ⟨w.heap.size + 1 + 1 + 1, 0, none⟩)], .int .i64 x.1.1, .int .i64 x.1.2, undef, undef, undef, undef, undef, undef, undef, undef, undef], defers := [] }) ?assign ?body ?done ?stop
  case assign =>
    intro l x W K hK
    gi_wp2
    exact hK
  case body =>
    as_aux_lemma =>
      rintro l pre x W ⟨⟨hp, h0, h1, h2⟩, hB⟩ _
      have HP : Hid (∀ x ∈ vals pre, f + (x.1 : Int) ≠ q) := hp
      clear hp b0 b1 b2 b3 hB0
      have c0 := h0.cell
      have c1 := h1.cell
      have f1 := h1.frozen
      have c2 := h2.cell
      have hx := x.2.1
      have hx' : (x.1.1 : Int) < 4611686018427387904 := by omega
      by_cases he : f + (x.1.1 : Int) = q
      · have he' : (f + (x.1.1 : Int) == q) = true := by simpa using he
        have HE : Hid (f + (x.1.1 : Int) = q) := he
        clear he
        gi_wp2
        exact ⟨KeepsOthers.setCell _ _ _, ⟨rfl, ⟨x.1, by rw [vals_snoc]; simp, HE.out⟩, h1.set _⟩, hB.setCell (p := ⟨w.heap.size + 1, 0, none⟩) (by simp) _⟩
      · have he' : (f + (x.1.1 : Int) == q) = false := by simpa using he
        gi_wp2
        exact ⟨KeepsOthers.refl _, ⟨KeepsWalks.refl _, fun v hv => hv⟩, ⟨fun y hy => by rw [vals_snoc, List.mem_append, List.mem_singleton] at hy; rcases hy with hy | rfl; exact HP.out y hy; exact he, h0, h1, h2⟩, hB⟩
  case done =>
    as_aux_lemma =>
      rintro D ys W hD hys ⟨⟨hp, h0, h1, h2⟩, hB⟩ hK
      have HO : Hid (borderU s p = (q == (s.size : Int))) := by
        show borderU s p = (q == (s.size : Int))
        obtain ⟨e1, e2⟩ := HT.out
        unfold borderU
        rw [← e1, ← hys]
        have : (vals ys).any (fun x => p - 3 + x.1 == p) = false := by
          rw [List.any_eq_false]
          intro x hx
          have := hp x hx
          have e3 := HQ.out
          simp; omega
        rw [this, Bool.false_or, Bool.eq_iff_iff, beq_iff_eq, beq_iff_eq]
        have e3 := HQ.out
        omega
      clear hp b0 b1 b2 b3 hB0
      have c0 := h0.cell
      have c1 := h1.cell
      have f1 := h1.frozen
      gi_wp2
      have hK' := (KeepsOthers.setCell W ⟨w.heap.size + 1, 0, none⟩ (.bool (q == (s.size : Int)))).same D _ hK rfl
      refine ⟨by simp, .inl ⟨_, _, rfl, run_takeDeferred hK', ?_⟩⟩
      have g1 := (boxed_putObj (h1.set (.bool (q == (s.size : Int)))) (.deferred none) hK' rfl).cell
      refine ⟨.bool (q == (s.size : Int)), ?_, by rw [HO.out], (hB.setCell (p := ⟨w.heap.size + 1, 0, none⟩) (by simp) _).trans (belowK_b (w := w) (Nat.le_refl _) _ D _ _ (by simp at hD; omega) hK' rfl rfl)⟩
      simp [results, Tryd.f31, go_sem, g1]
  case stop =>
    as_aux_lemma =>
      rintro D c pre W hD hpre ⟨⟨rfl, ⟨x, hx, he⟩, h1⟩, hB⟩ hK
      have HO : Hid (borderU s p = true) := by
        show borderU s p = true
        obtain ⟨e1, e2⟩ := HT.out
        unfold borderU
        rw [← e1, Bool.or_eq_true]
        refine .inl (List.any_eq_true.2 ⟨x, hpre.1.subset hx, ?_⟩)
        have e3 := HQ.out
        simp; omega
      clear b0 b1 b2 b3 hB0 he hx hpre
      gi_wp2
      refine ⟨by simp, .inl ⟨_, _, rfl, run_takeDeferred hK, ?_⟩⟩
      have g1 := (boxed_putObj h1 (.deferred none) hK rfl).cell
      refine ⟨.bool true, ?_, by rw [HO.out], hB.trans (belowK_b (w := w) (Nat.le_refl _) W D _ _ (by simp at hD; omega) hK rfl rfl)⟩
      simp [results, Tryd.f31, go_sem, g1]
end Go.Proofs
