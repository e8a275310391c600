/-
  Several texts in one (Ubr Xcr).
-/
import Derived.RangeFuncNested
import Derived.RangeFuncBound
import Derived.RangeFuncCalls
import Derived.RangeFuncLeaves
import Derived.Shelf.Abstract
import Derived.Shelf.RegionOpen
import Derived.WalkKit
import Derived.WalkSpells
import Derived.WalkLawsBesides
import Derived.OwnWalkIn
import Derived.TacticsInMore
import Derived.LoopNIn
import Derived.LoopIn
import Derived.BigQuiet
import Derived.RegionIn
import Derived.Deep.QuietTactic
import Derived.Lib.OthersKept
import Derived.Lib.IndexBytes
import Derived.Test.YtknaoahokopplaaGreatDoorUar
import Derived.Deep.LoopGhost
import Derived.ScopeJumps
import Derived.WalkMore
import Derived.Test.YtknaoahokopplaaGreatDoorMgfr
import Derived.Test.YtknaoahokopplaaGreatDoorMgar
namespace Go.Proofs
open Go.RowKit Go.Shelf

set_option maxRecDepth 100000
attribute [local go_sem] Oper.semAt_some
/-! First -/
def firstU (s : ByteArray) : Int × Int := match units s with | [] => (0, 0) | x :: _ => (x.2, wd x.2)
theorem firstU_of {s : ByteArray} {x : Nat × Nat} (h : [x] <+: units s) : firstU s = ((x.2 : Int), wd x.2) := by
  obtain ⟨t, ht⟩ := h
  unfold firstU
  rw [← ht]; rfl
set_option maxHeartbeats 1000000 in
theorem firstU_any (s : ByteArray) (w : World) (hs : s.size ≤ maxLen) : Calls Tryz.prog 135 #[.string s] w fun e w' => e = .returned (.tuple #[.int .i64 (firstU s).1, .int .i64 (firstU s).2]) ∧ Below w.heap.size w w' := by
  refine (callsIn_wide (n := 5)).1 ?_
  refine callsIn_of_wp_marks Tryz.func135 rfl trivial ?_ rfl
  simp only [Tryz.ntmps135, List.size_toArray, List.length_cons, List.length_nil, Nat.reduceAdd, Nat.reduceSub, Array.replicate_succ, Array.replicate_zero, List.push_toArray, List.append_toArray, List.nil_append, List.cons_append]
  gi_wp2_with (refine ⟨trivial, ?_⟩; gi_at_call 158; refine (callsIn_wide.2 (all_any _ _)).mono ?_; rintro e w' ⟨rfl, rfl⟩)
  have b0 : Boxed (w.alloc (.cells #[.int .i64 0] 3)) w.heap.size 3 (.int .i64 0) := Boxed.new _ _ _
  have b1 : Boxed ((w.alloc (.cells #[.int .i64 0] 3)).alloc (.cells #[.int .i64 0] 3)) (w.heap.size + 1) 3 (.int .i64 0) := by have := Boxed.new (w.alloc (.cells #[.int .i64 0] 3)) 3 (.int .i64 0); rwa [World.size_alloc] at this
  have b2 : Boxed (((w.alloc (.cells #[.int .i64 0] 3)).alloc (.cells #[.int .i64 0] 3)).alloc (.cells #[.string s] 9)) (w.heap.size + 1 + 1) 9 (.string s) := by have := Boxed.new ((w.alloc (.cells #[.int .i64 0] 3)).alloc (.cells #[.int .i64 0] 3)) 9 (.string s); rwa [World.size_alloc, World.size_alloc] at this
  have hB0 : Below w.heap.size w (((w.alloc (.cells #[.int .i64 0] 3)).alloc (.cells #[.int .i64 0] 3)).alloc (.cells #[.string s] 9)) := (((Below.refl _ w).alloc (Nat.le_refl _) _).alloc (by simp) _).alloc (by simp; omega) _
  refine wpIn_rangeFunc_ownF rfl (by omega) (gf := 179) (lb := #[.pointer (some ⟨w.heap.size + 1 + 1, 0, none⟩)]) rfl trivial (enters_of Tryz.func179 (by kernel_rfl) rfl)
    (all_stops 4 (by omega) (w.heap.size + 1 + 1) s hs _ (by simp) b2.cell) kpA_t kpA_b (Below.refl _ _) (fun _ => rfl)
    (fun pre W => (pre = [] ∧ Boxed W w.heap.size 3 (.int .i64 0) ∧ Boxed W (w.heap.size + 1) 3 (.int .i64 0)) ∧ Below w.heap.size w W)
    (fun c pre W => (c = .ret ∧ ∃ x, vals pre = [x] ∧ Boxed W w.heap.size 3 (.int .i64 x.2) ∧ Boxed W (w.heap.size + 1) 3 (.int .i64 (wd x.2))) ∧ Below w.heap.size w W)
    (OwnFrom.and (Own.from (fun s A B row hs hg hr => ⟨hs.1, boxed_kept hs.2.1 hg hr, boxed_kept hs.2.2 hg hr⟩) _) (ownFrom_below (Nat.le_refl _) (by simp; omega)))
    (fun c => OwnFrom.and (Own.from (fun s A B row hs hg hr => by obtain ⟨hc, x, hx, h1, h2⟩ := hs; exact ⟨hc, x, hx, boxed_kept h1 hg hr, boxed_kept h2 hg hr⟩) _) (ownFrom_below (Nat.le_refl _) (by simp; omega)))
    ⟨⟨rfl, (b0.alloc _).alloc _, b1.alloc _⟩, hB0⟩
    (fun x => { tmps := #[.string s, undef, .pointer (some ⟨w.heap.size, 0, none⟩), .pointer (some ⟨w.heap.size + 1, 0, none⟩), undef, .int .i64 x.1.2, .string s, .func (.func 179) #[] #[.pointer (some ⟨w.heap.size + 1 + 1, 0, none⟩)], .int .i64 x.1.1, .int .i64 x.1.2, undef, undef, undef], defers := [] }) ?assign ?body ?done ?stop
  case assign =>
    intro l x W K hK
    gi_wp2
    exact hK
  case body =>
    rintro l pre x W ⟨⟨rfl, h1, h2⟩, hB⟩ _
    have c1 := h1.cell
    have f1 := h1.frozen
    have c2 := h2.cell
    have f2 := h2.frozen
    gi_wp2_with (refine ⟨trivial, ?_⟩; gi_at_call 48; refine (CallsIn.inRound l (callsIn_wide.2 (width_any _ _))).mono ?_; rintro e w' ⟨rfl, rfl⟩)
    exact ⟨(KeepsOthers.setCell _ _ _).trans (KeepsOthers.setCell _ _ _), ⟨rfl, x.1, rfl, (h1.set _).other (by omega) _, (h2.other (by omega) _).set _⟩, (hB.setCell (p := ⟨w.heap.size, 0, none⟩) (Nat.le_refl _) _).setCell (p := ⟨w.heap.size + 1, 0, none⟩) (by simp) _⟩
  case done =>
    rintro D ys W hD hys ⟨⟨rfl, h1, h2⟩, hB⟩ hK
    have c1 := h1.cell
    have f1 := h1.frozen
    have c2 := h2.cell
    have f2 := h2.frozen
    gi_wp2
    have hK' := ((KeepsOthers.setCell W ⟨w.heap.size, 0, none⟩ (.int .i64 0)).trans (KeepsOthers.setCell _ ⟨w.heap.size + 1, 0, none⟩ (.int .i64 0))).same D _ hK rfl
    refine ⟨by simp, .inl ⟨_, _, rfl, run_takeDeferred hK', ?_⟩⟩
    have g1 := (boxed_putObj ((h1.set (.int .i64 0)).other (B' := w.heap.size + 1) (by omega) (.int .i64 0)) (.deferred none) hK' rfl).cell
    have g2 := (boxed_putObj ((h2.other (B' := w.heap.size) (by omega) (.int .i64 0)).set (.int .i64 0)) (.deferred none) hK' rfl).cell
    have hu : units s = [] := hys.symm
    have hf : firstU s = (0, 0) := by unfold firstU; rw [hu]
    refine ⟨.tuple #[.int .i64 0, .int .i64 0], ?_, by rw [hf], ((hB.setCell (p := ⟨w.heap.size, 0, none⟩) (Nat.le_refl _) _).setCell (p := ⟨w.heap.size + 1, 0, none⟩) (by simp) _).trans (belowK_b (w := w) (Nat.le_refl _) _ D _ _ (by simp at hD; omega) hK' rfl rfl)⟩
    simp [results, Tryz.f135, go_sem, g1, g2]
  case stop =>
    rintro D c pre W hD hpre ⟨⟨rfl, x, hx, h1, h2⟩, hB⟩ hK
    gi_wp2
    refine ⟨by simp, .inl ⟨_, _, rfl, run_takeDeferred hK, ?_⟩⟩
    have g1 := (boxed_putObj h1 (.deferred none) hK rfl).cell
    have g2 := (boxed_putObj h2 (.deferred none) hK rfl).cell
    have hf := firstU_of (s := s) (x := x) (by rw [← hx]; exact hpre.1)
    refine ⟨.tuple #[.int .i64 x.2, .int .i64 (wd x.2)], ?_, by rw [hf], hB.trans (belowK_b (w := w) (Nat.le_refl _) W D _ _ (by simp at hD; omega) hK rfl rfl)⟩
    simp [results, Tryz.f135, go_sem, g1, g2]
end Go.Proofs
namespace Go.Proofs
open Go.RowKit Go.Shelf

set_option maxRecDepth 100000
attribute [local go_sem] Oper.semAt_some


theorem ext_drop (s : ByteArray) (p : Nat) : (s.extract p s.size).data.toList = s.data.toList.drop p := by
  simp [ByteArray.data_extract]
  exact List.take_of_length_le (by simp)
theorem ext_take (s : ByteArray) (k : Nat) : (s.extract 0 k).data.toList = s.data.toList.take k := by
  simp [ByteArray.data_extract]
theorem ext_size (s : ByteArray) (p : Nat) : (s.extract p s.size).size = s.size - p := by simp
/-- a token as a value -/
abbrev tk0 : Value := tk 0 0 0 0 ⟨#[]⟩ 0
set_option maxHeartbeats 1000000 in
theorem variable_ok (s : ByteArray) (n : Nat) (w : World) (hs : s.size ≤ maxLen) (h1 : 1 ≤ s.size) (hn : spanN isNm (s.extract 1 s.size).data.toList = n) (h32 : n ≤ 32) : Calls Tryz.prog 87 #[.string s] w fun e w' => e = .returned (.tuple #[tk 2 0 (1 + n) 0 (s.extract 0 (1 + n)) 0, .int .i64 0]) ∧ Below w.heap.size w w' := by
  have hb : (1 + (n : Int)) ≤ (s.size : Int) := by
    have := spanN_le isNm (s.extract 1 s.size).data.toList
    rw [hn, ext_drop] at this
    simp at this
    omega
  have hb0 : (0 : Int) ≤ 1 + (n : Int) := by omega
  have hd : decide (32 < (n : Int)) = false := by simp; omega
  go_enter Tryz.func87, Tryz.ntmps87
  go_wp2_with (go_at_call 85; refine (span_name _ _ (by rw [ext_size]; omega)).mono ?_; rintro e w' ⟨rfl, rfl⟩; rw [hn])
  exact bodyPost_ret (v := .tuple #[tk 2 0 (1 + n) 0 (s.extract 0 (1 + n)) 0, .int .i64 0]) (by simp [results, Tryz.f87, go_sem]) rfl ⟨rfl, (Below.refl _ _).alloc (Nat.le_refl _) _⟩
set_option maxHeartbeats 1000000 in
theorem variable_bad (s : ByteArray) (n : Nat) (w : World) (hs : s.size ≤ maxLen) (h1 : 1 ≤ s.size) (hn : spanN isNm (s.extract 1 s.size).data.toList = n) (h32 : 32 < n) : Calls Tryz.prog 87 #[.string s] w fun e w' => e = .returned (.tuple #[tk0, .int .i64 42]) ∧ Below w.heap.size w w' := by
  have hd : decide (32 < (n : Int)) = true := by simp; omega
  go_enter Tryz.func87, Tryz.ntmps87
  go_wp2_with (go_at_call 85; refine (span_name _ _ (by rw [ext_size]; omega)).mono ?_; rintro e w' ⟨rfl, rfl⟩; rw [hn])
  exact bodyPost_ret (v := .tuple #[tk0, .int .i64 42]) (by simp [results, Tryz.f87, go_sem]) rfl ⟨rfl, (Below.refl _ _).alloc (Nat.le_refl _) _⟩

theorem span2_le (s : ByteArray) (n : Nat) (h2 : 2 ≤ s.size) (hn : spanN isNm (s.extract 2 s.size).data.toList = n) : 2 + (n : Int) ≤ (s.size : Int) := by
  have := spanN_le isNm (s.extract 2 s.size).data.toList
  rw [hn, ext_drop] at this
  simp at this
  omega
set_option maxHeartbeats 1000000 in
theorem class_many (s r : ByteArray) (n : Nat) (w : World) (hs : s.size ≤ maxLen) (h2 : 2 ≤ s.size) (hn : spanN isNm (s.extract 2 s.size).data.toList = n) (_hr : s.extract (2 + n) s.size = r) (h32 : 32 < n) {b : Bool} (_hp : Lib.hasPrefix r.data.toList [58, 93] = b) : Calls Tryz.prog 89 #[.string s] w fun e w' => e = .returned (.tuple #[tk0, .int .i64 42]) ∧ Below w.heap.size w w' := by
  have hd : decide (32 < (n : Int)) = true := by simp; omega
  have hb := span2_le s n h2 hn
  have hb0 : (0 : Int) ≤ 2 + (n : Int) := by omega
  have hm : (s.size : Int) ≤ 9223372036854775807 := by unfold maxLen at hs; omega
  go_enter Tryz.func89, Tryz.ntmps89
  go_wp2_with (first | (go_at_call 85; refine (span_name _ _ (by rw [ext_size]; omega)).mono ?_; rintro e w' ⟨rfl, rfl⟩; rw [hn]) | (go_at_call 88; refine (Tryz.strings_HasPrefix _ _ _).mono ?_; rintro e w' ⟨rfl, rfl⟩; rw [show (⟨#[58, 93]⟩ : ByteArray).data.toList = [58, 93] from rfl, hp]))
  all_goals exact bodyPost_ret (v := (.tuple #[tk0, .int .i64 42])) (by simp [results, Tryz.f89, go_sem]) rfl ⟨rfl, (Below.refl _ _).alloc (Nat.le_refl _) _⟩
set_option maxHeartbeats 1000000 in
theorem class_open1 (s r : ByteArray) (n : Nat) (w : World) (hs : s.size ≤ maxLen) (h2 : 2 ≤ s.size) (hn : spanN isNm (s.extract 2 s.size).data.toList = n) (hr : s.extract (2 + n) s.size = r) (h32 : n ≤ 32) {b : Bool} (_hp : Lib.hasPrefix r.data.toList [58, 93] = b) (he : r.toList.isEmpty = true) : Calls Tryz.prog 89 #[.string s] w fun e w' => e = .returned (.tuple #[tk0, .int .i64 44]) ∧ Below w.heap.size w w' := by
  have hd : decide (32 < (n : Int)) = false := by simp; omega
  have hb := span2_le s n h2 hn
  have hb0 : (0 : Int) ≤ 2 + (n : Int) := by omega
  have hm : (s.size : Int) ≤ 9223372036854775807 := by unfold maxLen at hs; omega
  go_enter Tryz.func89, Tryz.ntmps89
  go_wp2_with (first | (go_at_call 85; refine (span_name _ _ (by rw [ext_size]; omega)).mono ?_; rintro e w' ⟨rfl, rfl⟩; rw [hn]) | (go_at_call 88; refine (Tryz.strings_HasPrefix _ _ _).mono ?_; rintro e w' ⟨rfl, rfl⟩; rw [show (⟨#[58, 93]⟩ : ByteArray).data.toList = [58, 93] from rfl, hp]))
  all_goals exact bodyPost_ret (v := (.tuple #[tk0, .int .i64 44])) (by simp [results, Tryz.f89, go_sem]) rfl ⟨rfl, (Below.refl _ _).alloc (Nat.le_refl _) _⟩
set_option maxHeartbeats 1000000 in
theorem class_open2 (s r : ByteArray) (n : Nat) (w : World) (hs : s.size ≤ maxLen) (h2 : 2 ≤ s.size) (hn : spanN isNm (s.extract 2 s.size).data.toList = n) (hr : s.extract (2 + n) s.size = r) (h32 : n ≤ 32) {b : Bool} (_hp : Lib.hasPrefix r.data.toList [58, 93] = b) (h0 : 0 < n) (he : r.toList.isEmpty = false) (hc : (r.toList == [58]) = true) : Calls Tryz.prog 89 #[.string s] w fun e w' => e = .returned (.tuple #[tk0, .int .i64 44]) ∧ Below w.heap.size w w' := by
  have hd : decide (32 < (n : Int)) = false := by simp; omega
  have h0i : (0 : Int) < (n : Int) := by omega
  have hb := span2_le s n h2 hn
  have hb0 : (0 : Int) ≤ 2 + (n : Int) := by omega
  have hm : (s.size : Int) ≤ 9223372036854775807 := by unfold maxLen at hs; omega
  go_enter Tryz.func89, Tryz.ntmps89
  go_wp2_with (first | (go_at_call 85; refine (span_name _ _ (by rw [ext_size]; omega)).mono ?_; rintro e w' ⟨rfl, rfl⟩; rw [hn]) | (go_at_call 88; refine (Tryz.strings_HasPrefix _ _ _).mono ?_; rintro e w' ⟨rfl, rfl⟩; rw [show (⟨#[58, 93]⟩ : ByteArray).data.toList = [58, 93] from rfl, hp]))
  all_goals exact bodyPost_ret (v := (.tuple #[tk0, .int .i64 44])) (by simp [results, Tryz.f89, go_sem]) rfl ⟨rfl, (Below.refl _ _).alloc (Nat.le_refl _) _⟩
set_option maxHeartbeats 1000000 in
theorem class_bad0 (s r : ByteArray) (w : World) (hs : s.size ≤ maxLen) (h2 : 2 ≤ s.size) (hr : s.extract 2 s.size = r) (hn : spanN isNm r.data.toList = 0) {b : Bool} (_hp : Lib.hasPrefix r.data.toList [58, 93] = b) (he : r.toList.isEmpty = false) : Calls Tryz.prog 89 #[.string s] w fun e w' => e = .returned (.tuple #[tk0, .int .i64 42]) ∧ Below w.heap.size w w' := by
  have hb : (2 : Int) ≤ (s.size : Int) := by omega
  have hm : (s.size : Int) ≤ 9223372036854775807 := by unfold maxLen at hs; omega
  have hrs : r.size ≤ maxLen := by rw [← hr, ext_size]; omega
  go_enter Tryz.func89, Tryz.ntmps89
  go_wp2_with (first | (go_at_call 85; refine (span_name _ _ hrs).mono ?_; rintro e w' ⟨rfl, rfl⟩; rw [hn]) | (go_at_call 88; refine (Tryz.strings_HasPrefix _ _ _).mono ?_; rintro e w' ⟨rfl, rfl⟩; rw [show (⟨#[58, 93]⟩ : ByteArray).data.toList = [58, 93] from rfl, hp]))
  all_goals exact bodyPost_ret (v := (.tuple #[tk0, .int .i64 42])) (by simp [results, Tryz.f89, go_sem]) rfl ⟨rfl, (Below.refl _ _).alloc (Nat.le_refl _) _⟩
set_option maxHeartbeats 1000000 in
theorem class_bad1 (s r : ByteArray) (n : Nat) (w : World) (hs : s.size ≤ maxLen) (h2 : 2 ≤ s.size) (hn : spanN isNm (s.extract 2 s.size).data.toList = n) (hr : s.extract (2 + n) s.size = r) (h32 : n ≤ 32) (hp : Lib.hasPrefix r.data.toList [58, 93] = false) (h0 : 0 < n) (he : r.toList.isEmpty = false) (hc : (r.toList == [58]) = false) : Calls Tryz.prog 89 #[.string s] w fun e w' => e = .returned (.tuple #[tk0, .int .i64 42]) ∧ Below w.heap.size w w' := by
  have hd : decide (32 < (n : Int)) = false := by simp; omega
  have h0i : (0 : Int) < (n : Int) := by omega
  have h0d : decide ((n : Int) = 0) = false := by simp; omega
  have hb := span2_le s n h2 hn
  have hb0 : (0 : Int) ≤ 2 + (n : Int) := by omega
  have hm : (s.size : Int) ≤ 9223372036854775807 := by unfold maxLen at hs; omega
  go_enter Tryz.func89, Tryz.ntmps89
  go_wp2_with (first | (go_at_call 85; refine (span_name _ _ (by rw [ext_size]; omega)).mono ?_; rintro e w' ⟨rfl, rfl⟩; rw [hn]) | (go_at_call 88; refine (Tryz.strings_HasPrefix _ _ _).mono ?_; rintro e w' ⟨rfl, rfl⟩; rw [show (⟨#[58, 93]⟩ : ByteArray).data.toList = [58, 93] from rfl, hp]))
  all_goals exact bodyPost_ret (v := (.tuple #[tk0, .int .i64 42])) (by simp [results, Tryz.f89, go_sem]) rfl ⟨rfl, (Below.refl _ _).alloc (Nat.le_refl _) _⟩
set_option maxHeartbeats 1000000 in
theorem class_ok (s r : ByteArray) (n : Nat) (w : World) (hs : s.size ≤ maxLen) (h2 : 2 ≤ s.size) (hn : spanN isNm (s.extract 2 s.size).data.toList = n) (hr : s.extract (2 + n) s.size = r) (h32 : n ≤ 32) (hp : Lib.hasPrefix r.data.toList [58, 93] = true) (h0 : 0 < n) (he : r.toList.isEmpty = false) (hc : (r.toList == [58]) = false) (hz : 3 + (n : Int) ≤ (s.size : Int)) : Calls Tryz.prog 89 #[.string s] w fun e w' => e = .returned (.tuple #[tk 2 0 (2 + n + 2) 0 (s.extract 1 (2 + n + 1)) 0, .int .i64 0]) ∧ Below w.heap.size w w' := by
  have hd : decide (32 < (n : Int)) = false := by simp; omega
  have h0i : (0 : Int) < (n : Int) := by omega
  have h0d : decide ((n : Int) = 0) = false := by simp; omega
  have hb := span2_le s n h2 hn
  have hb0 : (0 : Int) ≤ 2 + (n : Int) := by omega
  have hm : (s.size : Int) ≤ 9223372036854775807 := by unfold maxLen at hs; omega
  go_enter Tryz.func89, Tryz.ntmps89
  go_wp2_with (first | (go_at_call 85; refine (span_name _ _ (by rw [ext_size]; omega)).mono ?_; rintro e w' ⟨rfl, rfl⟩; rw [hn]) | (go_at_call 88; refine (Tryz.strings_HasPrefix _ _ _).mono ?_; rintro e w' ⟨rfl, rfl⟩; rw [show (⟨#[58, 93]⟩ : ByteArray).data.toList = [58, 93] from rfl, hp]))
  all_goals exact bodyPost_ret (v := (.tuple #[tk 2 0 (2 + n + 2) 0 (s.extract 1 (2 + n + 1)) 0, .int .i64 0])) (by simp [results, Tryz.f89, go_sem]) rfl ⟨rfl, (Below.refl _ _).alloc (Nat.le_refl _) _⟩
end Go.Proofs
