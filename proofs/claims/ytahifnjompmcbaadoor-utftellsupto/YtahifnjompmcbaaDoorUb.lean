/-
  First and Last do what the plain functions below say.
-/
import Derived.RangeFuncNested
import Derived.RangeFuncBound
import Derived.RangeFuncCalls
import Derived.RangeFuncLeaves
import Derived.Shelf.Abstract
import Derived.Shelf.RegionOpen
import Derived.WalkKit
import Derived.WalkSpells
import Derived.WalkLawsBesides
import Derived.OwnWalkIn
import Derived.TacticsInMore
import Derived.LoopNIn
import Derived.LoopIn
import Derived.BigQuiet
import Derived.RegionIn
import Derived.Deep.QuietTactic
import Derived.Lib.OthersKept
import Derived.Lib.IndexBytes
import Derived.Test.YtahifnjompmcbaaDoorUa
namespace Go.Proofs
open Go.RowKit Go.Shelf

set_option maxRecDepth 100000
attribute [local go_sem] Oper.semAt_some
/-! First -/
def firstU (s : ByteArray) : Int × Int := match units s with | [] => (0, 0) | x :: _ => (x.2, wd x.2)
theorem firstU_of {s : ByteArray} {x : Nat × Nat} (h : [x] <+: units s) : firstU s = ((x.2 : Int), wd x.2) := by
  obtain ⟨t, ht⟩ := h
  unfold firstU
  rw [← ht]; rfl
set_option maxHeartbeats 1000000 in
theorem first_any (s : ByteArray) (w : World) (hs : s.size ≤ maxLen) : Calls Tryd.prog 15 #[.string s] w fun e w' => e = .returned (.tuple #[.int .i64 (firstU s).1, .int .i64 (firstU s).2]) ∧ Below w.heap.size w w' := by
  refine (callsIn_wide (n := 5)).1 ?_
  refine callsIn_of_wp_marks Tryd.func15 rfl trivial ?_ rfl
  simp only [Tryd.ntmps15, List.size_toArray, List.length_cons, List.length_nil, Nat.reduceAdd, Nat.reduceSub, Array.replicate_succ, Array.replicate_zero, List.push_toArray, List.append_toArray, List.nil_append, List.cons_append]
  gi_wp2_with (refine ⟨trivial, ?_⟩; gi_at_call 33; refine (callsIn_wide.2 (all_any _ _)).mono ?_; rintro e w' ⟨rfl, rfl⟩)
  have b0 : Boxed (w.alloc (.cells #[.int .i64 0] 3)) w.heap.size 3 (.int .i64 0) := Boxed.new _ _ _
  have b1 : Boxed ((w.alloc (.cells #[.int .i64 0] 3)).alloc (.cells #[.int .i64 0] 3)) (w.heap.size + 1) 3 (.int .i64 0) := by have := Boxed.new (w.alloc (.cells #[.int .i64 0] 3)) 3 (.int .i64 0); rwa [World.size_alloc] at this
  have b2 : Boxed (((w.alloc (.cells #[.int .i64 0] 3)).alloc (.cells #[.int .i64 0] 3)).alloc (.cells #[.string s] 9)) (w.heap.size + 1 + 1) 9 (.string s) := by have := Boxed.new ((w.alloc (.cells #[.int .i64 0] 3)).alloc (.cells #[.int .i64 0] 3)) 9 (.string s); rwa [World.size_alloc, World.size_alloc] at this
  have hB0 : Below w.heap.size w (((w.alloc (.cells #[.int .i64 0] 3)).alloc (.cells #[.int .i64 0] 3)).alloc (.cells #[.string s] 9)) := (((Below.refl _ w).alloc (Nat.le_refl _) _).alloc (by simp) _).alloc (by simp; omega) _
  refine wpIn_rangeFunc_ownF rfl (by omega) (gf := 45) (lb := #[.pointer (some ⟨w.heap.size + 1 + 1, 0, none⟩)]) rfl trivial (enters_of Tryd.func45 (by kernel_rfl) rfl)
    (all_stops 4 (by omega) (w.heap.size + 1 + 1) s hs _ (by simp) b2.cell) kpA_t kpA_b (Below.refl _ _) (fun _ => rfl)
    (fun pre W => (pre = [] ∧ Boxed W w.heap.size 3 (.int .i64 0) ∧ Boxed W (w.heap.size + 1) 3 (.int .i64 0)) ∧ Below w.heap.size w W)
    (fun c pre W => (c = .ret ∧ ∃ x, vals pre = [x] ∧ Boxed W w.heap.size 3 (.int .i64 x.2) ∧ Boxed W (w.heap.size + 1) 3 (.int .i64 (wd x.2))) ∧ Below w.heap.size w W)
    (OwnFrom.and (Own.from (fun s A B row hs hg hr => ⟨hs.1, boxed_kept hs.2.1 hg hr, boxed_kept hs.2.2 hg hr⟩) _) (ownFrom_below (Nat.le_refl _) (by simp; omega)))
    (fun c => OwnFrom.and (Own.from (fun s A B row hs hg hr => by obtain ⟨hc, x, hx, h1, h2⟩ := hs; exact ⟨hc, x, hx, boxed_kept h1 hg hr, boxed_kept h2 hg hr⟩) _) (ownFrom_below (Nat.le_refl _) (by simp; omega)))
    ⟨⟨rfl, (b0.alloc _).alloc _, b1.alloc _⟩, hB0⟩
    (fun x => { tmps := #[.string s, undef, .pointer (some ⟨w.heap.size, 0, none⟩), .pointer (some ⟨w.heap.size + 1, 0, none⟩), undef, .int .i64 x.1.2, .string s, .func (.func 45) #[] #[.pointer (some ⟨w.heap.size + 1 + 1, 0, none⟩)], .int .i64 x.1.1, .int .i64 x.1.2, undef, undef, undef], defers := [] }) ?assign ?body ?done ?stop
  case assign =>
    intro l x W K hK
    gi_wp2
    exact hK
  case body =>
    rintro l pre x W ⟨⟨rfl, h1, h2⟩, hB⟩ _
    have c1 := h1.cell
    have f1 := h1.frozen
    have c2 := h2.cell
    have f2 := h2.frozen
    gi_wp2_with (refine ⟨trivial, ?_⟩; gi_at_call 24; refine (CallsIn.inRound l (callsIn_wide.2 (width_any _ _))).mono ?_; rintro e w' ⟨rfl, rfl⟩)
    exact ⟨(KeepsOthers.setCell _ _ _).trans (KeepsOthers.setCell _ _ _), ⟨rfl, x.1, rfl, (h1.set _).other (by omega) _, (h2.other (by omega) _).set _⟩, (hB.setCell (p := ⟨w.heap.size, 0, none⟩) (Nat.le_refl _) _).setCell (p := ⟨w.heap.size + 1, 0, none⟩) (by simp) _⟩
  case done =>
    rintro D ys W hD hys ⟨⟨rfl, h1, h2⟩, hB⟩ hK
    have c1 := h1.cell
    have f1 := h1.frozen
    have c2 := h2.cell
    have f2 := h2.frozen
    gi_wp2
    have hK' := ((KeepsOthers.setCell W ⟨w.heap.size, 0, none⟩ (.int .i64 0)).trans (KeepsOthers.setCell _ ⟨w.heap.size + 1, 0, none⟩ (.int .i64 0))).same D _ hK rfl
    refine ⟨by simp, .inl ⟨_, _, rfl, run_takeDeferred hK', ?_⟩⟩
    have g1 := (boxed_putObj ((h1.set (.int .i64 0)).other (B' := w.heap.size + 1) (by omega) (.int .i64 0)) (.deferred none) hK' rfl).cell
    have g2 := (boxed_putObj ((h2.other (B' := w.heap.size) (by omega) (.int .i64 0)).set (.int .i64 0)) (.deferred none) hK' rfl).cell
    have hu : units s = [] := hys.symm
    have hf : firstU s = (0, 0) := by unfold firstU; rw [hu]
    refine ⟨.tuple #[.int .i64 0, .int .i64 0], ?_, by rw [hf], ((hB.setCell (p := ⟨w.heap.size, 0, none⟩) (Nat.le_refl _) _).setCell (p := ⟨w.heap.size + 1, 0, none⟩) (by simp) _).trans (belowK_b (w := w) (Nat.le_refl _) _ D _ _ (by simp at hD; omega) hK' rfl rfl)⟩
    simp [results, Tryd.f15, go_sem, g1, g2]
  case stop =>
    rintro D c pre W hD hpre ⟨⟨rfl, x, hx, h1, h2⟩, hB⟩ hK
    gi_wp2
    refine ⟨by simp, .inl ⟨_, _, rfl, run_takeDeferred hK, ?_⟩⟩
    have g1 := (boxed_putObj h1 (.deferred none) hK rfl).cell
    have g2 := (boxed_putObj h2 (.deferred none) hK rfl).cell
    have hf := firstU_of (s := s) (x := x) (by rw [← hx]; exact hpre.1)
    refine ⟨.tuple #[.int .i64 x.2, .int .i64 (wd x.2)], ?_, by rw [hf], hB.trans (belowK_b (w := w) (Nat.le_refl _) W D _ _ (by simp at hD; omega) hK rfl rfl)⟩
    simp [results, Tryd.f15, go_sem, g1, g2]
/-! Last -/
def tailOf (s : ByteArray) : ByteArray := s.extract (s.size - 4) s.size
def lastOf (n : Nat) (l : List (Nat × Nat)) : Int × Int := match l.getLast? with | none => (0, 0) | some x => (x.2, (n : Int) - x.1)
theorem lastOf_snoc (n : Nat) (l : List (Nat × Nat)) (x : Nat × Nat) : lastOf n (l ++ [x]) = ((x.2 : Int), (n : Int) - x.1) := by simp [lastOf]
def lastU (s : ByteArray) : Int × Int := lastOf (tailOf s).size (units (tailOf s))
set_option maxHeartbeats 1000000 in
theorem last_any (s : ByteArray) (w : World) (hs : s.size ≤ maxLen) : Calls Tryd.prog 17 #[.string s] w fun e w' => e = .returned (.tuple #[.int .i64 (lastU s).1, .int .i64 (lastU s).2]) ∧ Below w.heap.size w w' := by
  have _hs2 := hs
  unfold maxLen at _hs2
  refine (callsIn_wide (n := 5)).1 ?_
  refine callsIn_of_wp_marks Tryd.func17 rfl trivial ?_ rfl
  simp only [Tryd.ntmps17, List.size_toArray, List.length_cons, List.length_nil, Nat.reduceAdd, Nat.reduceSub, Array.replicate_succ, Array.replicate_zero, List.push_toArray, List.append_toArray, List.nil_append, List.cons_append]
  gi_wp2_with (refine ⟨trivial, ?_⟩; gi_at_call 33; refine (callsIn_wide.2 (all_any _ _)).mono ?_; rintro e w' ⟨rfl, rfl⟩)
  obtain ⟨t, ht⟩ : ∃ t, s.extract (max 0 ((s.size : Int) - 4)).toNat s.size = t := ⟨_, rfl⟩
  have hts : t = tailOf s := by rw [← ht]; unfold tailOf; congr 1; omega
  have htl : t.size ≤ maxLen := by rw [hts]; unfold tailOf; simp [ByteArray.size_extract]; omega
  have _htl := htl
  unfold maxLen at _htl
  obtain ⟨m, hm⟩ : ∃ m, max 0 ((s.size : Int) - 4) = m := ⟨_, rfl⟩
  have HL : Hid (lastU s = lastOf t.size (units t)) := by rw [hts]; exact (rfl : lastU s = _)
  rw [ht, hm]
  clear ht hts hm
  have b0 : Boxed (w.alloc (.cells #[.string t] 9)) w.heap.size 9 (.string t) := Boxed.new _ _ _
  have b1 : Boxed ((w.alloc (.cells #[.string t] 9)).alloc (.cells #[.int .i64 0] 3)) (w.heap.size + 1) 3 (.int .i64 0) := by have := Boxed.new (w.alloc (.cells #[.string t] 9)) 3 (.int .i64 0); rwa [World.size_alloc] at this
  have b2 : Boxed (((w.alloc (.cells #[.string t] 9)).alloc (.cells #[.int .i64 0] 3)).alloc (.cells #[.int .i64 0] 3)) (w.heap.size + 1 + 1) 3 (.int .i64 0) := by have := Boxed.new ((w.alloc (.cells #[.string t] 9)).alloc (.cells #[.int .i64 0] 3)) 3 (.int .i64 0); rwa [World.size_alloc, World.size_alloc] at this
  have b3 : Boxed ((((w.alloc (.cells #[.string t] 9)).alloc (.cells #[.int .i64 0] 3)).alloc (.cells #[.int .i64 0] 3)).alloc (.cells #[.string t] 9)) (w.heap.size + 1 + 1 + 1) 9 (.string t) := by have := Boxed.new (((w.alloc (.cells #[.string t] 9)).alloc (.cells #[.int .i64 0] 3)).alloc (.cells #[.int .i64 0] 3)) 9 (.string t); rwa [World.size_alloc, World.size_alloc, World.size_alloc] at this
  have hB0 : Below w.heap.size w ((((w.alloc (.cells #[.string t] 9)).alloc (.cells #[.int .i64 0] 3)).alloc (.cells #[.int .i64 0] 3)).alloc (.cells #[.string t] 9)) := ((((Below.refl _ w).alloc (Nat.le_refl _) _).alloc (by simp) _).alloc (by simp; omega) _).alloc (by simp; omega) _
  refine wpIn_rangeFunc_ownF rfl (by omega) (gf := 45) (lb := #[.pointer (some ⟨w.heap.size + 1 + 1 + 1, 0, none⟩)]) rfl trivial (enters_of Tryd.func45 (by kernel_rfl) rfl)
    (all_stops 4 (by omega) (w.heap.size + 1 + 1 + 1) t htl _ (by simp) b3.cell) kpA_t kpA_b (Below.refl _ _) (fun _ => rfl)
    (fun pre W => (Boxed W w.heap.size 9 (.string t) ∧ Boxed W (w.heap.size + 1) 3 (.int .i64 (lastOf t.size (vals pre)).1) ∧ Boxed W (w.heap.size + 1 + 1) 3 (.int .i64 (lastOf t.size (vals pre)).2)) ∧ Below w.heap.size w W)
    (fun _ _ _ => False)
    (OwnFrom.and (Own.from (fun s A B row hs hg hr => ⟨boxed_kept hs.1 hg hr, boxed_kept hs.2.1 hg hr, boxed_kept hs.2.2 hg hr⟩) _) (ownFrom_below (Nat.le_refl _) (by simp; omega)))
    (fun _ _ _ _ _ hs _ _ => hs)
    ⟨⟨((b0.alloc _).alloc _).alloc _, (b1.alloc _).alloc _, b2.alloc _⟩, hB0⟩
    (fun x => { tmps := #[.string s, undef, .int .i64 0, .int .i64 0, .pointer (some ⟨w.heap.size, 0, none⟩), .pointer (some ⟨w.heap.size + 1, 0, none⟩), .pointer (some ⟨w.heap.size + 1 + 1, 0, none⟩), .int .i64 x.1.1, .int .i64 x.1.2, .string s, .string s, .int .i64 s.size, .int .i64 (s.size - 4), .int .i64 m, .string t, .string t, .func (.func 45) #[] #[.pointer (some ⟨w.heap.size + 1 + 1 + 1, 0, none⟩)], .int .i64 x.1.1, .int .i64 x.1.2, undef, undef, undef, undef, undef, undef, undef], defers := [] }) ?assign ?body ?done ?stop
  case assign =>
    intro l x W K hK
    gi_wp2
    exact hK
  case body =>
    rintro l pre x W ⟨⟨h0, h1, h2⟩, hB⟩ _
    have c0 := h0.cell
    have c1 := h1.cell
    have f1 := h1.frozen
    have c2 := h2.cell
    have f2 := h2.frozen
    have hx := x.2.1
    gi_wp2
    gi_region
    all_goals gi_wp2
    all_goals
      refine ⟨(KeepsOthers.setCell _ _ _).trans ((KeepsOthers.setCell _ _ _).trans (KeepsOthers.drew _)), kpA_of ((KeepsOthers.setCell _ _ _).trans ((KeepsOthers.setCell _ _ _).trans (KeepsOthers.drew _))) (fun v hv => ?_), ⟨(h0.other (by omega) _).other (by omega) _, ?_, ?_⟩, ((hB.setCell (p := ⟨w.heap.size + 1, 0, none⟩) (by simp) _).setCell (p := ⟨w.heap.size + 1 + 1, 0, none⟩) (by simp; omega) _).drew⟩
      · rw [cell_drew_own, World.cell?_setCell_other _ _ _ _ (by simp), World.cell?_setCell_other _ _ _ _ (by simp)]; exact hv
      · rw [vals_snoc, lastOf_snoc]; exact (h1.set _).other (by omega) _
      · rw [vals_snoc, lastOf_snoc, IntWalk.i64_in _ (by omega)]; exact (h2.other (by omega) _).set _
  case done =>
    rintro D ys W hD hys ⟨⟨h0, h1, h2⟩, hB⟩ hK
    have c1 := h1.cell
    have c2 := h2.cell
    gi_wp2
    gi_region
    all_goals gi_wp2
    all_goals
      refine ⟨by simp, .inl ⟨_, _, rfl, run_takeDeferred hK, ?_⟩⟩
      exact ⟨.tuple #[.int .i64 (lastOf t.size (units t)).1, .int .i64 (lastOf t.size (units t)).2], by simp [results, Tryd.f17, go_sem], by rw [HL.out], hB.drew.trans (belowK_b (w := w) (Nat.le_refl _) W.drew D _ _ (by simp at hD; omega) hK rfl rfl)⟩
  case stop =>
    rintro D c pre W _ _ h _
    exact h.elim
end Go.Proofs
