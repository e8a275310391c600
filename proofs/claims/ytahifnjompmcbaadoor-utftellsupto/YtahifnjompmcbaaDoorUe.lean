/-
  Open does what the plain function below says, wherever the table of spellings lies as it is laid.
-/
import Derived.RangeFuncNested
import Derived.RangeFuncBound
import Derived.RangeFuncCalls
import Derived.RangeFuncLeaves
import Derived.Shelf.Abstract
import Derived.Shelf.RegionOpen
import Derived.WalkKit
import Derived.WalkSpells
import Derived.WalkLawsBesides
import Derived.OwnWalkIn
import Derived.TacticsInMore
import Derived.LoopNIn
import Derived.LoopIn
import Derived.BigQuiet
import Derived.RegionIn
import Derived.Deep.QuietTactic
import Derived.Lib.OthersKept
import Derived.Lib.IndexBytes
import Derived.Lib.ConvBytes
import Derived.Test.YtahifnjompmcbaaDoorUd
namespace Go.Proofs
open Go.RowKit Go.Shelf

set_option maxRecDepth 100000
attribute [local go_sem] Oper.semAt_some
/-! Open -/
def spell : List (Int × Int × Int × Int) := [(192, 2, 128, 2047), (224, 3, 2048, 55295), (224, 3, 57344, 65535), (240, 4, 65536, 1114111)]
def tabV : Array Value := #[.int .i64 192, .int .i64 2, .int .i64 128, .int .i64 2047, .int .i64 224, .int .i64 3, .int .i64 2048, .int .i64 55295, .int .i64 224, .int .i64 3, .int .i64 57344, .int .i64 65535, .int .i64 240, .int .i64 4, .int .i64 65536, .int .i64 1114111]
/-- the table lies in block 0 -/
def Tab (w : World) : Prop := ∀ (j : Nat) (v : Value), tabV[j]? = some v → w.cell? ⟨0, j, none⟩ = some v
theorem Tab.cell {w : World} (h : Tab w) (j : Nat) (v : Value) (hv : tabV[j]? = some v) : w.cell? ⟨0, j, none⟩ = some v := h j v hv
theorem Tab.pos {w : World} (h : Tab w) : 0 < w.heap.size := by
  obtain ⟨o, ho, _⟩ := cells_of_cell (h.cell 0 _ rfl)
  exact (Array.getElem?_eq_some_iff.1 ho).1
theorem Tab.below {w w' : World} {n : Nat} (h : Tab w) (hb : Below n w w') (hn : 0 < n) : Tab w' := fun j v hv => (hb.cell (p := ⟨0, j, none⟩) hn).trans (h j v hv)
def hitW (h : ByteArray) : List (Int × Int × Int × Int) → Option (Int × Int)
  | [] => none
  | (a, b, c, d) :: l => if (bgn h a b c d).1 ≤ (bgn h a b c d).2 then some (bgn h a b c d) else hitW h l
def openL (s : ByteArray) : List (Nat × Nat) → Int × Int × Int
  | [] => (0, 0, 0)
  | x :: l => if (1114240 ≤ x.2 ∧ x.2 ≤ 1114367) ∧ s.size - x.1 ≤ 3 then
      match hitW (s.extract x.1 s.size) spell with
      | some (a, b) => ((s.size - x.1 : Nat), a, b)
      | none => openL s l
    else (0, 0, 0)
def openU (s : ByteArray) : Int × Int × Int := openL s (backU s)
theorem openL_out {s : ByteArray} {p u : Nat} (h : ¬ ((1114240 ≤ u ∧ u ≤ 1114367) ∧ s.size - p ≤ 3)) (l : List (Nat × Nat)) : openL s ((p, u) :: l) = (0, 0, 0) := by
  simp only [openL]; rw [if_neg h]
theorem openL_hit {s : ByteArray} {p u : Nat} (h : (1114240 ≤ u ∧ u ≤ 1114367) ∧ s.size - p ≤ 3) {a b : Int} (hh : hitW (s.extract p s.size) spell = some (a, b)) (l : List (Nat × Nat)) : openL s ((p, u) :: l) = (((s.size - p : Nat) : Int), a, b) := by
  simp only [openL]; rw [if_pos h, hh]
theorem openL_miss {s : ByteArray} {p u : Nat} (h : (1114240 ≤ u ∧ u ≤ 1114367) ∧ s.size - p ≤ 3) (hh : hitW (s.extract p s.size) spell = none) (l : List (Nat × Nat)) : openL s ((p, u) :: l) = openL s l := by
  simp only [openL]; rw [if_pos h, hh]
theorem open_stop {s : ByteArray} {pre : List (UU s)} {x : UU s} {r : Int × Int × Int} (HP : ∀ rest, openL s (vals pre ++ rest) = openL s rest) (h : ∀ rest, openL s (x.1 :: rest) = r) : ∀ rest, openL s (vals (pre ++ [x]) ++ rest) = r := fun rest => by
  rw [vals_snoc, List.append_assoc, HP]; exact h rest
theorem open_on {s : ByteArray} {pre : List (UU s)} {x : UU s} (HP : ∀ rest, openL s (vals pre ++ rest) = openL s rest) (h : ∀ rest, openL s (x.1 :: rest) = openL s rest) : ∀ rest, openL s (vals (pre ++ [x]) ++ rest) = openL s rest := fun rest => by
  rw [vals_snoc, List.append_assoc, HP]; exact h rest
theorem idx0 (w : World) : (Instr.index 52 (.agg #[.int .i64 192, .int .i64 2, .int .i64 128, .int .i64 2047, .int .i64 224, .int .i64 3, .int .i64 2048, .int .i64 55295, .int .i64 224, .int .i64 3, .int .i64 57344, .int .i64 65535, .int .i64 240, .int .i64 4, .int .i64 65536, .int .i64 1114111]) (.int .i64 0)).run Tryd.prog w = .ok (.agg #[.int .i64 192, .int .i64 2, .int .i64 128, .int .i64 2047]) w := by kernel_rfl
theorem idx1 (w : World) : (Instr.index 52 (.agg #[.int .i64 192, .int .i64 2, .int .i64 128, .int .i64 2047, .int .i64 224, .int .i64 3, .int .i64 2048, .int .i64 55295, .int .i64 224, .int .i64 3, .int .i64 57344, .int .i64 65535, .int .i64 240, .int .i64 4, .int .i64 65536, .int .i64 1114111]) (.int .i64 1)).run Tryd.prog w = .ok (.agg #[.int .i64 224, .int .i64 3, .int .i64 2048, .int .i64 55295]) w := by kernel_rfl
theorem idx2 (w : World) : (Instr.index 52 (.agg #[.int .i64 192, .int .i64 2, .int .i64 128, .int .i64 2047, .int .i64 224, .int .i64 3, .int .i64 2048, .int .i64 55295, .int .i64 224, .int .i64 3, .int .i64 57344, .int .i64 65535, .int .i64 240, .int .i64 4, .int .i64 65536, .int .i64 1114111]) (.int .i64 2)).run Tryd.prog w = .ok (.agg #[.int .i64 224, .int .i64 3, .int .i64 57344, .int .i64 65535]) w := by kernel_rfl
theorem idx3 (w : World) : (Instr.index 52 (.agg #[.int .i64 192, .int .i64 2, .int .i64 128, .int .i64 2047, .int .i64 224, .int .i64 3, .int .i64 2048, .int .i64 55295, .int .i64 224, .int .i64 3, .int .i64 57344, .int .i64 65535, .int .i64 240, .int .i64 4, .int .i64 65536, .int .i64 1114111]) (.int .i64 3)).run Tryd.prog w = .ok (.agg #[.int .i64 240, .int .i64 4, .int .i64 65536, .int .i64 1114111]) w := by kernel_rfl
theorem below3 {n : Nat} {X Y Z : World} {o : Obj} (h : Below n X Y) (hn : n ≤ Y.heap.size) (hb : Below (Y.alloc o).heap.size (Y.alloc o) Z) : Below n X Z :=
  (h.alloc hn o).trans (hb.mono (by rw [World.size_alloc]; omega))
set_option maxHeartbeats 1000000 in
theorem open_any (s : ByteArray) (w : World) (hs : s.size ≤ maxLen) (hT : Tab w) : Calls Tryd.prog 19 #[.string s] w fun e w' => e = .returned (.tuple #[.int .i64 (openU s).1, .int .i64 (openU s).2.1, .int .i64 (openU s).2.2]) ∧ Below w.heap.size w w' := by
  have _hs2 := hs
  unfold maxLen at _hs2
  refine (callsIn_wide (n := 9)).1 ?_
  refine callsIn_of_wp_marks Tryd.func19 rfl trivial ?_ rfl
  simp only [Tryd.ntmps19, List.size_toArray, List.length_cons, List.length_nil, Nat.reduceAdd, Nat.reduceSub, Array.replicate_succ, Array.replicate_zero, List.push_toArray, List.append_toArray, List.nil_append, List.cons_append]
  gi_wp2_with (refine ⟨trivial, ?_⟩; gi_at_call 34; refine (callsIn_wide.2 (back_any _ _)).mono ?_; rintro e w' ⟨rfl, rfl⟩)
  have b0 : Boxed (w.alloc (.cells #[.string s] 9)) w.heap.size 9 (.string s) := Boxed.new _ _ _
  have b1 : Boxed ((w.alloc (.cells #[.string s] 9)).alloc (.cells #[.int .i64 0] 3)) (w.heap.size + 1) 3 (.int .i64 0) := by have := Boxed.new (w.alloc (.cells #[.string s] 9)) 3 (.int .i64 0); rwa [World.size_alloc] at this
  have b2 : Boxed (((w.alloc (.cells #[.string s] 9)).alloc (.cells #[.int .i64 0] 3)).alloc (.cells #[.int .i64 0] 3)) (w.heap.size + 1 + 1) 3 (.int .i64 0) := by have := Boxed.new ((w.alloc (.cells #[.string s] 9)).alloc (.cells #[.int .i64 0] 3)) 3 (.int .i64 0); rwa [World.size_alloc, World.size_alloc] at this
  have b3 : Boxed ((((w.alloc (.cells #[.string s] 9)).alloc (.cells #[.int .i64 0] 3)).alloc (.cells #[.int .i64 0] 3)).alloc (.cells #[.int .i64 0] 3)) (w.heap.size + 1 + 1 + 1) 3 (.int .i64 0) := by have := Boxed.new (((w.alloc (.cells #[.string s] 9)).alloc (.cells #[.int .i64 0] 3)).alloc (.cells #[.int .i64 0] 3)) 3 (.int .i64 0); rwa [World.size_alloc, World.size_alloc, World.size_alloc] at this
  have b4 : Boxed (((((w.alloc (.cells #[.string s] 9)).alloc (.cells #[.int .i64 0] 3)).alloc (.cells #[.int .i64 0] 3)).alloc (.cells #[.int .i64 0] 3)).alloc (.cells #[.string s] 9)) (w.heap.size + 1 + 1 + 1 + 1) 9 (.string s) := by have := Boxed.new ((((w.alloc (.cells #[.string s] 9)).alloc (.cells #[.int .i64 0] 3)).alloc (.cells #[.int .i64 0] 3)).alloc (.cells #[.int .i64 0] 3)) 9 (.string s); rwa [World.size_alloc, World.size_alloc, World.size_alloc, World.size_alloc] at this
  have hB0 : Below w.heap.size w (((((w.alloc (.cells #[.string s] 9)).alloc (.cells #[.int .i64 0] 3)).alloc (.cells #[.int .i64 0] 3)).alloc (.cells #[.int .i64 0] 3)).alloc (.cells #[.string s] 9)) := (((((Below.refl _ w).alloc (Nat.le_refl _) _).alloc (by simp) _).alloc (by simp; omega) _).alloc (by simp; omega) _).alloc (by simp; omega) _
  refine wpIn_rangeFunc_ownF rfl (by omega) (gf := 47) (lb := #[.pointer (some ⟨w.heap.size + 1 + 1 + 1 + 1, 0, none⟩)]) rfl trivial (enters_of Tryd.func47 (by kernel_rfl) rfl)
    (back_stops 8 (by omega) (w.heap.size + 1 + 1 + 1 + 1) s hs _ (by simp) b4.cell) kpA_t kpA_b (Below.refl _ _) (fun _ => rfl)
    (fun pre W => ((∀ rest, openL s (vals pre ++ rest) = openL s rest) ∧ Boxed W w.heap.size 9 (.string s) ∧ Boxed W (w.heap.size + 1) 3 (.int .i64 0) ∧ Boxed W (w.heap.size + 1 + 1) 3 (.int .i64 0) ∧ Boxed W (w.heap.size + 1 + 1 + 1) 3 (.int .i64 0)) ∧ Below w.heap.size w W)
    (fun c pre W => (∃ n lo hi : Int, (∀ rest, openL s (vals pre ++ rest) = (n, lo, hi)) ∧ (c = .ret ∨ (c = .exit 0 ∧ n = 0 ∧ lo = 0 ∧ hi = 0)) ∧ Boxed W (w.heap.size + 1) 3 (.int .i64 n) ∧ Boxed W (w.heap.size + 1 + 1) 3 (.int .i64 lo) ∧ Boxed W (w.heap.size + 1 + 1 + 1) 3 (.int .i64 hi)) ∧ Below w.heap.size w W)
    (OwnFrom.and (Own.from (fun s A B row hs hg hr => ⟨hs.1, boxed_kept hs.2.1 hg hr, boxed_kept hs.2.2.1 hg hr, boxed_kept hs.2.2.2.1 hg hr, boxed_kept hs.2.2.2.2 hg hr⟩) _) (ownFrom_below (Nat.le_refl _) (by simp; omega)))
    (fun c => OwnFrom.and (Own.from (fun s A B row hs hg hr => by obtain ⟨n, lo, hi, h1, h2, h3, h4, h5⟩ := hs; exact ⟨n, lo, hi, h1, h2, boxed_kept h3 hg hr, boxed_kept h4 hg hr, boxed_kept h5 hg hr⟩) _) (ownFrom_below (Nat.le_refl _) (by simp; omega)))
    ⟨⟨fun _ => rfl, (((b0.alloc _).alloc _).alloc _).alloc _, ((b1.alloc _).alloc _).alloc _, (b2.alloc _).alloc _, b3.alloc _⟩, hB0⟩
    (fun x => { tmps := #[.string s, .pointer (some ⟨w.heap.size, 0, none⟩), .pointer (some ⟨w.heap.size + 1, 0, none⟩), .pointer (some ⟨w.heap.size + 1 + 1, 0, none⟩), .pointer (some ⟨w.heap.size + 1 + 1 + 1, 0, none⟩), .int .i64 x.1.1, .int .i64 x.1.2, undef, undef, undef, undef, undef, .string s, .func (.func 47) #[] #[.pointer (some ⟨w.heap.size + 1 + 1 + 1 + 1, 0, none⟩)], .int .i64 x.1.1, .int .i64 x.1.2, undef, undef, undef, undef, undef, undef, undef, undef, undef, undef, undef, undef, undef, undef, undef, undef, undef, undef, undef, undef, undef, undef, undef, undef, undef, undef, undef, undef, undef], defers := [] }) ?assign ?body ?done ?stop
  case assign =>
    intro l x W K hK
    gi_wp2
    exact hK
  case body =>
    rintro l pre x W ⟨⟨hp, h0, h1, h2, h3⟩, hB⟩ _
    have HP : Hid (∀ rest, openL s (vals pre ++ rest) = openL s rest) := hp
    clear hp b0 b1 b2 b3 b4 hB0
    have c0 := h0.cell
    have hx := x.2.1
    obtain ⟨⟨p, u⟩, hx1, hx2⟩ := x
    simp only at hx hx1 hx2 ⊢
    by_cases a : 1114240 ≤ u ∧ u ≤ 1114367
    · by_cases b : s.size - p ≤ 3
      · have hT2 := hT.below hB hT.pos
        have t0 := hT2.cell 0 (.int .i64 192) rfl
        have t1 := hT2.cell 1 (.int .i64 2) rfl
        have t2 := hT2.cell 2 (.int .i64 128) rfl
        have t3 := hT2.cell 3 (.int .i64 2047) rfl
        have t4 := hT2.cell 4 (.int .i64 224) rfl
        have t5 := hT2.cell 5 (.int .i64 3) rfl
        have t6 := hT2.cell 6 (.int .i64 2048) rfl
        have t7 := hT2.cell 7 (.int .i64 55295) rfl
        have t8 := hT2.cell 8 (.int .i64 224) rfl
        have t9 := hT2.cell 9 (.int .i64 3) rfl
        have t10 := hT2.cell 10 (.int .i64 57344) rfl
        have t11 := hT2.cell 11 (.int .i64 65535) rfl
        have t12 := hT2.cell 12 (.int .i64 240) rfl
        have t13 := hT2.cell 13 (.int .i64 4) rfl
        have t14 := hT2.cell 14 (.int .i64 65536) rfl
        have t15 := hT2.cell 15 (.int .i64 1114111) rfl
        have a1 : 1114240 ≤ (u : Int) := by omega
        have a2 : (u : Int) ≤ 1114367 := by omega
        have hz : (s.extract p s.size).size = s.size - p := by simp [ByteArray.size_extract]
        have hg : decide (3 < (((s.size - p : Nat)) : Int)) = false := by simp; omega
        gi_wp2_with (refine ⟨trivial, ?_⟩; gi_at_call 36; refine (CallsIn.inRound l (callsIn_wide.2 (stray_yes _ _ a1 a2))).mono ?_; rintro e w' ⟨rfl, rfl⟩)
        clear t0 t1 t2 t3 t4 t5 t6 t7 t8 t9 t10 t11 t12 t13 t14 t15 hT2 hg
        gi_loopw [28] (fun vi wr => ∃ k : Nat, vi = .int .i64 k ∧ k ≤ 4 ∧ Hid (hitW (s.extract p s.size) spell = hitW (s.extract p s.size) (spell.drop k)) ∧ Below w'.heap.size w' wr) (fun vi _ => 4 - (intOf vi).toNat)
        case atStart => exact ⟨0, rfl, by omega, rfl, Below.refl _ _⟩
        case round =>
          obtain ⟨k, rfl, hk, hm, hbw⟩ := hrel
          have hz1 := hbw.size
          have hk5 : k = 0 ∨ k = 1 ∨ k = 2 ∨ k = 3 ∨ k = 4 := by omega
          rcases hk5 with rfl | rfl | rfl | rfl | rfl
          · have hix := idx0
            have hF : hitW (s.extract p s.size) (spell.drop 0) = if (bgn (s.extract p s.size) 192 2 128 2047).1 ≤ (bgn (s.extract p s.size) 192 2 128 2047).2 then some (bgn (s.extract p s.size) 192 2 128 2047) else hitW (s.extract p s.size) (spell.drop 1) := rfl
            have hc := fun W1 : World => begun_any (s.extract p s.size) 192 2 128 2047 W1 (by rw [hz]; omega) (by rw [hz]; omega) (by decide) (by decide)
            generalize bgn (s.extract p s.size) 192 2 128 2047 = g at hF hc
            have HC : Hid (∀ W1 : World, Calls Tryd.prog 37 #[.string (s.extract p s.size), .agg #[.int .i64 192, .int .i64 2, .int .i64 128, .int .i64 2047]] W1 fun e w' => e = .returned (.tuple #[.int .i64 g.1, .int .i64 g.2]) ∧ Below W1.heap.size W1 w') := hc
            clear hc
            by_cases hg : g.1 ≤ g.2
            · rw [if_pos hg] at hF
              have HH : Hid (hitW (s.extract p s.size) spell = some (g.1, g.2)) := hm.out.trans hF
              clear hm hF
              gi_wp2_with (refine ⟨trivial, ?_⟩; gi_at_call 37; refine (CallsIn.inRound l (callsIn_wide.2 (HC.out _))).mono ?_; rintro e w1 ⟨rfl, hb1⟩; have hbb := below3 hbw hz1 hb1; clear hb1; have k1 := boxed_below h1 hbb h1.lt; have k2 := boxed_below h2 hbb h2.lt; have k3 := boxed_below h3 hbb h3.lt; have c1 := k1.cell; have f1 := k1.frozen; have c2 := k2.cell; have f2 := k2.frozen; have c3 := k3.cell; have f3 := k3.frozen)
              exact ⟨(keeps_below hbb).trans (((KeepsOthers.setCell _ _ _).trans (KeepsOthers.setCell _ _ _)).trans (KeepsOthers.setCell _ _ _)), ⟨_, _, _, open_stop HP.out (openL_hit ⟨a, b⟩ HH.out), .inl rfl, ((k1.set _).other (by omega) _).other (by omega) _, ((k2.other (by omega) _).set _).other (by omega) _, ((k3.other (by omega) _).other (by omega) _).set _⟩, (((hB.trans (hbb.mono hB.size)).setCell (p := ⟨w.heap.size + 1, 0, none⟩) (by simp) _).setCell (p := ⟨w.heap.size + 1 + 1, 0, none⟩) (by simp; omega) _).setCell (p := ⟨w.heap.size + 1 + 1 + 1, 0, none⟩) (by simp; omega) _⟩
            · rw [if_neg hg] at hF
              have HM : Hid (hitW (s.extract p s.size) spell = hitW (s.extract p s.size) (spell.drop 1)) := hm.out.trans hF
              clear hm hF
              gi_wp2_with (refine ⟨trivial, ?_⟩; gi_at_call 37; refine (CallsIn.inRound l (callsIn_wide.2 (HC.out _))).mono ?_; rintro e w1 ⟨rfl, hb1⟩; have hbb := below3 hbw hz1 hb1; clear hb1; have k1 := boxed_below h1 hbb h1.lt; have k2 := boxed_below h2 hbb h2.lt; have k3 := boxed_below h3 hbb h3.lt; have c1 := k1.cell; have f1 := k1.frozen; have c2 := k2.cell; have f2 := k2.frozen; have c3 := k3.cell; have f3 := k3.frozen)
              exact ⟨⟨1, rfl, by omega, HM, hbb⟩, by decide⟩
          · have hix := idx1
            have hF : hitW (s.extract p s.size) (spell.drop 1) = if (bgn (s.extract p s.size) 224 3 2048 55295).1 ≤ (bgn (s.extract p s.size) 224 3 2048 55295).2 then some (bgn (s.extract p s.size) 224 3 2048 55295) else hitW (s.extract p s.size) (spell.drop 2) := rfl
            have hc := fun W1 : World => begun_any (s.extract p s.size) 224 3 2048 55295 W1 (by rw [hz]; omega) (by rw [hz]; omega) (by decide) (by decide)
            generalize bgn (s.extract p s.size) 224 3 2048 55295 = g at hF hc
            have HC : Hid (∀ W1 : World, Calls Tryd.prog 37 #[.string (s.extract p s.size), .agg #[.int .i64 224, .int .i64 3, .int .i64 2048, .int .i64 55295]] W1 fun e w' => e = .returned (.tuple #[.int .i64 g.1, .int .i64 g.2]) ∧ Below W1.heap.size W1 w') := hc
            clear hc
            by_cases hg : g.1 ≤ g.2
            · rw [if_pos hg] at hF
              have HH : Hid (hitW (s.extract p s.size) spell = some (g.1, g.2)) := hm.out.trans hF
              clear hm hF
              gi_wp2_with (refine ⟨trivial, ?_⟩; gi_at_call 37; refine (CallsIn.inRound l (callsIn_wide.2 (HC.out _))).mono ?_; rintro e w1 ⟨rfl, hb1⟩; have hbb := below3 hbw hz1 hb1; clear hb1; have k1 := boxed_below h1 hbb h1.lt; have k2 := boxed_below h2 hbb h2.lt; have k3 := boxed_below h3 hbb h3.lt; have c1 := k1.cell; have f1 := k1.frozen; have c2 := k2.cell; have f2 := k2.frozen; have c3 := k3.cell; have f3 := k3.frozen)
              exact ⟨(keeps_below hbb).trans (((KeepsOthers.setCell _ _ _).trans (KeepsOthers.setCell _ _ _)).trans (KeepsOthers.setCell _ _ _)), ⟨_, _, _, open_stop HP.out (openL_hit ⟨a, b⟩ HH.out), .inl rfl, ((k1.set _).other (by omega) _).other (by omega) _, ((k2.other (by omega) _).set _).other (by omega) _, ((k3.other (by omega) _).other (by omega) _).set _⟩, (((hB.trans (hbb.mono hB.size)).setCell (p := ⟨w.heap.size + 1, 0, none⟩) (by simp) _).setCell (p := ⟨w.heap.size + 1 + 1, 0, none⟩) (by simp; omega) _).setCell (p := ⟨w.heap.size + 1 + 1 + 1, 0, none⟩) (by simp; omega) _⟩
            · rw [if_neg hg] at hF
              have HM : Hid (hitW (s.extract p s.size) spell = hitW (s.extract p s.size) (spell.drop 2)) := hm.out.trans hF
              clear hm hF
              gi_wp2_with (refine ⟨trivial, ?_⟩; gi_at_call 37; refine (CallsIn.inRound l (callsIn_wide.2 (HC.out _))).mono ?_; rintro e w1 ⟨rfl, hb1⟩; have hbb := below3 hbw hz1 hb1; clear hb1; have k1 := boxed_below h1 hbb h1.lt; have k2 := boxed_below h2 hbb h2.lt; have k3 := boxed_below h3 hbb h3.lt; have c1 := k1.cell; have f1 := k1.frozen; have c2 := k2.cell; have f2 := k2.frozen; have c3 := k3.cell; have f3 := k3.frozen)
              exact ⟨⟨2, rfl, by omega, HM, hbb⟩, by decide⟩
          · have hix := idx2
            have hF : hitW (s.extract p s.size) (spell.drop 2) = if (bgn (s.extract p s.size) 224 3 57344 65535).1 ≤ (bgn (s.extract p s.size) 224 3 57344 65535).2 then some (bgn (s.extract p s.size) 224 3 57344 65535) else hitW (s.extract p s.size) (spell.drop 3) := rfl
            have hc := fun W1 : World => begun_any (s.extract p s.size) 224 3 57344 65535 W1 (by rw [hz]; omega) (by rw [hz]; omega) (by decide) (by decide)
            generalize bgn (s.extract p s.size) 224 3 57344 65535 = g at hF hc
            have HC : Hid (∀ W1 : World, Calls Tryd.prog 37 #[.string (s.extract p s.size), .agg #[.int .i64 224, .int .i64 3, .int .i64 57344, .int .i64 65535]] W1 fun e w' => e = .returned (.tuple #[.int .i64 g.1, .int .i64 g.2]) ∧ Below W1.heap.size W1 w') := hc
            clear hc
            by_cases hg : g.1 ≤ g.2
            · rw [if_pos hg] at hF
              have HH : Hid (hitW (s.extract p s.size) spell = some (g.1, g.2)) := hm.out.trans hF
              clear hm hF
              gi_wp2_with (refine ⟨trivial, ?_⟩; gi_at_call 37; refine (CallsIn.inRound l (callsIn_wide.2 (HC.out _))).mono ?_; rintro e w1 ⟨rfl, hb1⟩; have hbb := below3 hbw hz1 hb1; clear hb1; have k1 := boxed_below h1 hbb h1.lt; have k2 := boxed_below h2 hbb h2.lt; have k3 := boxed_below h3 hbb h3.lt; have c1 := k1.cell; have f1 := k1.frozen; have c2 := k2.cell; have f2 := k2.frozen; have c3 := k3.cell; have f3 := k3.frozen)
              exact ⟨(keeps_below hbb).trans (((KeepsOthers.setCell _ _ _).trans (KeepsOthers.setCell _ _ _)).trans (KeepsOthers.setCell _ _ _)), ⟨_, _, _, open_stop HP.out (openL_hit ⟨a, b⟩ HH.out), .inl rfl, ((k1.set _).other (by omega) _).other (by omega) _, ((k2.other (by omega) _).set _).other (by omega) _, ((k3.other (by omega) _).other (by omega) _).set _⟩, (((hB.trans (hbb.mono hB.size)).setCell (p := ⟨w.heap.size + 1, 0, none⟩) (by simp) _).setCell (p := ⟨w.heap.size + 1 + 1, 0, none⟩) (by simp; omega) _).setCell (p := ⟨w.heap.size + 1 + 1 + 1, 0, none⟩) (by simp; omega) _⟩
            · rw [if_neg hg] at hF
              have HM : Hid (hitW (s.extract p s.size) spell = hitW (s.extract p s.size) (spell.drop 3)) := hm.out.trans hF
              clear hm hF
              gi_wp2_with (refine ⟨trivial, ?_⟩; gi_at_call 37; refine (CallsIn.inRound l (callsIn_wide.2 (HC.out _))).mono ?_; rintro e w1 ⟨rfl, hb1⟩; have hbb := below3 hbw hz1 hb1; clear hb1; have k1 := boxed_below h1 hbb h1.lt; have k2 := boxed_below h2 hbb h2.lt; have k3 := boxed_below h3 hbb h3.lt; have c1 := k1.cell; have f1 := k1.frozen; have c2 := k2.cell; have f2 := k2.frozen; have c3 := k3.cell; have f3 := k3.frozen)
              exact ⟨⟨3, rfl, by omega, HM, hbb⟩, by decide⟩
          · have hix := idx3
            have hF : hitW (s.extract p s.size) (spell.drop 3) = if (bgn (s.extract p s.size) 240 4 65536 1114111).1 ≤ (bgn (s.extract p s.size) 240 4 65536 1114111).2 then some (bgn (s.extract p s.size) 240 4 65536 1114111) else hitW (s.extract p s.size) (spell.drop 4) := rfl
            have hc := fun W1 : World => begun_any (s.extract p s.size) 240 4 65536 1114111 W1 (by rw [hz]; omega) (by rw [hz]; omega) (by decide) (by decide)
            generalize bgn (s.extract p s.size) 240 4 65536 1114111 = g at hF hc
            have HC : Hid (∀ W1 : World, Calls Tryd.prog 37 #[.string (s.extract p s.size), .agg #[.int .i64 240, .int .i64 4, .int .i64 65536, .int .i64 1114111]] W1 fun e w' => e = .returned (.tuple #[.int .i64 g.1, .int .i64 g.2]) ∧ Below W1.heap.size W1 w') := hc
            clear hc
            by_cases hg : g.1 ≤ g.2
            · rw [if_pos hg] at hF
              have HH : Hid (hitW (s.extract p s.size) spell = some (g.1, g.2)) := hm.out.trans hF
              clear hm hF
              gi_wp2_with (refine ⟨trivial, ?_⟩; gi_at_call 37; refine (CallsIn.inRound l (callsIn_wide.2 (HC.out _))).mono ?_; rintro e w1 ⟨rfl, hb1⟩; have hbb := below3 hbw hz1 hb1; clear hb1; have k1 := boxed_below h1 hbb h1.lt; have k2 := boxed_below h2 hbb h2.lt; have k3 := boxed_below h3 hbb h3.lt; have c1 := k1.cell; have f1 := k1.frozen; have c2 := k2.cell; have f2 := k2.frozen; have c3 := k3.cell; have f3 := k3.frozen)
              exact ⟨(keeps_below hbb).trans (((KeepsOthers.setCell _ _ _).trans (KeepsOthers.setCell _ _ _)).trans (KeepsOthers.setCell _ _ _)), ⟨_, _, _, open_stop HP.out (openL_hit ⟨a, b⟩ HH.out), .inl rfl, ((k1.set _).other (by omega) _).other (by omega) _, ((k2.other (by omega) _).set _).other (by omega) _, ((k3.other (by omega) _).other (by omega) _).set _⟩, (((hB.trans (hbb.mono hB.size)).setCell (p := ⟨w.heap.size + 1, 0, none⟩) (by simp) _).setCell (p := ⟨w.heap.size + 1 + 1, 0, none⟩) (by simp; omega) _).setCell (p := ⟨w.heap.size + 1 + 1 + 1, 0, none⟩) (by simp; omega) _⟩
            · rw [if_neg hg] at hF
              have HM : Hid (hitW (s.extract p s.size) spell = hitW (s.extract p s.size) (spell.drop 4)) := hm.out.trans hF
              clear hm hF
              gi_wp2_with (refine ⟨trivial, ?_⟩; gi_at_call 37; refine (CallsIn.inRound l (callsIn_wide.2 (HC.out _))).mono ?_; rintro e w1 ⟨rfl, hb1⟩; have hbb := below3 hbw hz1 hb1; clear hb1; have k1 := boxed_below h1 hbb h1.lt; have k2 := boxed_below h2 hbb h2.lt; have k3 := boxed_below h3 hbb h3.lt; have c1 := k1.cell; have f1 := k1.frozen; have c2 := k2.cell; have f2 := k2.frozen; have c3 := k3.cell; have f3 := k3.frozen)
              exact ⟨⟨4, rfl, by omega, HM, hbb⟩, by decide⟩
          · have HM : Hid (hitW (s.extract p s.size) spell = none) := hm.out
            clear hm
            gi_wp2
            exact ⟨keeps_below hbw, kpA_of (keeps_below hbw) (fun v hv => cell_kept hv (grown_below hbw) (fun r e => by cases e)), ⟨open_on HP.out (openL_miss ⟨a, b⟩ HM.out), boxed_below h0 hbw h0.lt, boxed_below h1 hbw h1.lt, boxed_below h2 hbw h2.lt, boxed_below h3 hbw h3.lt⟩, hB.trans (hbw.mono hB.size)⟩
      · have a1 : 1114240 ≤ (u : Int) := by omega
        have a2 : (u : Int) ≤ 1114367 := by omega
        have hz : (s.extract p s.size).size = s.size - p := by simp [ByteArray.size_extract]
        have hg : decide (3 < (((s.size - p : Nat)) : Int)) = true := by simp; omega
        gi_wp2_with (refine ⟨trivial, ?_⟩; gi_at_call 36; refine (CallsIn.inRound l (callsIn_wide.2 (stray_yes _ _ a1 a2))).mono ?_; rintro e w' ⟨rfl, rfl⟩)
        exact ⟨KeepsOthers.refl _, ⟨0, 0, 0, open_stop HP.out (openL_out (fun c => b c.2)), .inr ⟨rfl, rfl, rfl, rfl⟩, h1, h2, h3⟩, hB⟩
    · have a' : (u : Int) < 1114240 ∨ 1114367 < (u : Int) := by omega
      have A' : Hid ((u : Int) < 1114240 ∨ 1114367 < (u : Int)) := a'
      clear a'
      gi_wp2_with (refine ⟨trivial, ?_⟩; gi_at_call 36; refine (CallsIn.inRound l (callsIn_wide.2 (stray_no _ _ A'.out))).mono ?_; rintro e w' ⟨rfl, rfl⟩)
      exact ⟨KeepsOthers.refl _, ⟨0, 0, 0, open_stop HP.out (openL_out (fun c => a c.1)), .inr ⟨rfl, rfl, rfl, rfl⟩, h1, h2, h3⟩, hB⟩
  case done =>
    rintro D ys W hD hys ⟨⟨hp, h0, h1, h2, h3⟩, hB⟩ hK
    have HO : Hid (openU s = (0, 0, 0)) := by
      have := hp []
      rw [hys, List.append_nil] at this
      exact this
    clear hp b0 b1 b2 b3 b4 hB0
    have c1 := h1.cell
    have f1 := h1.frozen
    have c2 := h2.cell
    have f2 := h2.frozen
    have c3 := h3.cell
    have f3 := h3.frozen
    gi_wp2
    have hK' := (((KeepsOthers.setCell W ⟨w.heap.size + 1, 0, none⟩ (.int .i64 0)).trans (KeepsOthers.setCell _ ⟨w.heap.size + 1 + 1, 0, none⟩ (.int .i64 0))).trans (KeepsOthers.setCell _ ⟨w.heap.size + 1 + 1 + 1, 0, none⟩ (.int .i64 0))).same D _ hK rfl
    refine ⟨by simp, .inl ⟨_, _, rfl, run_takeDeferred hK', ?_⟩⟩
    have g1 := (boxed_putObj (((h1.set (.int .i64 0)).other (B' := w.heap.size + 1 + 1) (by omega) (.int .i64 0)).other (B' := w.heap.size + 1 + 1 + 1) (by omega) (.int .i64 0)) (.deferred none) hK' rfl).cell
    have g2 := (boxed_putObj (((h2.other (B' := w.heap.size + 1) (by omega) (.int .i64 0)).set (.int .i64 0)).other (B' := w.heap.size + 1 + 1 + 1) (by omega) (.int .i64 0)) (.deferred none) hK' rfl).cell
    have g3 := (boxed_putObj (((h3.other (B' := w.heap.size + 1) (by omega) (.int .i64 0)).other (B' := w.heap.size + 1 + 1) (by omega) (.int .i64 0)).set (.int .i64 0)) (.deferred none) hK' rfl).cell
    refine ⟨.tuple #[.int .i64 0, .int .i64 0, .int .i64 0], ?_, by rw [HO.out], (((hB.setCell (p := ⟨w.heap.size + 1, 0, none⟩) (by simp) _).setCell (p := ⟨w.heap.size + 1 + 1, 0, none⟩) (by simp; omega) _).setCell (p := ⟨w.heap.size + 1 + 1 + 1, 0, none⟩) (by simp; omega) _).trans (belowK_b (w := w) (Nat.le_refl _) _ D _ _ (by simp at hD; omega) hK' rfl rfl)⟩
    simp [results, Tryd.f19, go_sem, g1, g2, g3]
  case stop =>
    rintro D c pre W hD hpre ⟨⟨n, lo, hi, hall, hc, h1, h2, h3⟩, hB⟩ hK
    have HO : Hid (openU s = (n, lo, hi)) := by
      obtain ⟨t, ht⟩ := hpre.1
      have := hall t
      rw [ht] at this
      exact this
    clear hall hpre b0 b1 b2 b3 b4 hB0
    rcases hc with rfl | ⟨rfl, rfl, rfl, rfl⟩
    · gi_wp2
      refine ⟨by simp, .inl ⟨_, _, rfl, run_takeDeferred hK, ?_⟩⟩
      have g1 := (boxed_putObj h1 (.deferred none) hK rfl).cell
      have g2 := (boxed_putObj h2 (.deferred none) hK rfl).cell
      have g3 := (boxed_putObj h3 (.deferred none) hK rfl).cell
      refine ⟨.tuple #[.int .i64 n, .int .i64 lo, .int .i64 hi], ?_, by rw [HO.out], hB.trans (belowK_b (w := w) (Nat.le_refl _) W D _ _ (by simp at hD; omega) hK rfl rfl)⟩
      simp [results, Tryd.f19, go_sem, g1, g2, g3]
    · have c1 := h1.cell
      have f1 := h1.frozen
      have c2 := h2.cell
      have f2 := h2.frozen
      have c3 := h3.cell
      have f3 := h3.frozen
      gi_wp2
      have hK' := (((KeepsOthers.setCell W ⟨w.heap.size + 1, 0, none⟩ (.int .i64 0)).trans (KeepsOthers.setCell _ ⟨w.heap.size + 1 + 1, 0, none⟩ (.int .i64 0))).trans (KeepsOthers.setCell _ ⟨w.heap.size + 1 + 1 + 1, 0, none⟩ (.int .i64 0))).same D _ hK rfl
      refine ⟨by simp, .inl ⟨_, _, rfl, run_takeDeferred hK', ?_⟩⟩
      have g1 := (boxed_putObj (((h1.set (.int .i64 0)).other (B' := w.heap.size + 1 + 1) (by omega) (.int .i64 0)).other (B' := w.heap.size + 1 + 1 + 1) (by omega) (.int .i64 0)) (.deferred none) hK' rfl).cell
      have g2 := (boxed_putObj (((h2.other (B' := w.heap.size + 1) (by omega) (.int .i64 0)).set (.int .i64 0)).other (B' := w.heap.size + 1 + 1 + 1) (by omega) (.int .i64 0)) (.deferred none) hK' rfl).cell
      have g3 := (boxed_putObj (((h3.other (B' := w.heap.size + 1) (by omega) (.int .i64 0)).other (B' := w.heap.size + 1 + 1) (by omega) (.int .i64 0)).set (.int .i64 0)) (.deferred none) hK' rfl).cell
      refine ⟨.tuple #[.int .i64 0, .int .i64 0, .int .i64 0], ?_, by rw [HO.out], (((hB.setCell (p := ⟨w.heap.size + 1, 0, none⟩) (by simp) _).setCell (p := ⟨w.heap.size + 1 + 1, 0, none⟩) (by simp; omega) _).setCell (p := ⟨w.heap.size + 1 + 1 + 1, 0, none⟩) (by simp; omega) _).trans (belowK_b (w := w) (Nat.le_refl _) _ D _ _ (by simp at hD; omega) hK' rfl rfl)⟩
      simp [results, Tryd.f19, go_sem, g1, g2, g3]
end Go.Proofs
