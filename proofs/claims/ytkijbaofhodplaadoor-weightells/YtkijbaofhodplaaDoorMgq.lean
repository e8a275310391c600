/-
  Several texts in one (Eq Er Es).
-/
import Derived.RangeFuncNested
import Derived.RangeFuncBound
import Derived.RangeFuncCalls
import Derived.RangeFuncLeaves
import Derived.Shelf.Abstract
import Derived.Shelf.RegionOpen
import Derived.WalkKit
import Derived.WalkSpells
import Derived.WalkLawsBesides
import Derived.OwnWalkIn
import Derived.TacticsInMore
import Derived.LoopNIn
import Derived.LoopIn
import Derived.BigQuiet
import Derived.RegionIn
import Derived.Deep.QuietTactic
import Derived.Deep.RegionWith
import Derived.Lib.OthersKept
import Derived.Maps.AppendAt
import Derived.Lib.SmallJoins
import Derived.Shelf.SlSortCmp.QuietGrown
import Derived.Test.YtkijbaofhodplaaDoorEp
namespace Go.Proofs
open Go.RowKit Go.Shelf

set_option maxRecDepth 100000
attribute [local go_sem] Oper.semAt_some
attribute [local go_sem ↓] Go.wp_at_zero Go.wp_at_succ
theorem one_any (u : Int) (w : World) : Calls Tryd.prog 46 #[.int .i64 u] w fun e w' => e = .returned (.slice (some ⟨w.heap.size, 0, none⟩) 1 1) ∧ w' = w.alloc (.cells #[.int .i64 u, .int .i64 u] 84) := by
  go_enter Tryd.func46, Tryd.ntmps46
  go_wp2
  go_ret
  exact ⟨rfl, rfl⟩
theorem u_any (x : Int) (w : World) : Calls Tryd.prog 47 #[.int .i64 x] w fun e w' => e = .returned (.agg #[.int .i64 1, .int .i64 x, .int .i64 0, .slice none 0 0]) ∧ w' = w.alloc (.cells #[.int .i64 1, .int .i64 x, .int .i64 0, .slice none 0 0] 66) := by
  go_enter Tryd.func47, Tryd.ntmps47
  go_wp2
  exact bodyPost_ret (v := .agg #[.int .i64 1, .int .i64 x, .int .i64 0, .slice none 0 0]) (by simp [results, Tryd.f47, go_sem]) rfl ⟨rfl, rfl⟩
def rlC (a : Int) (ps : List Pc) (cu : Int) : Rl := { bg := false, ante := [], key := [[(a, a)]], post := [], en := false, res := ps, cu := cu }
def pcC (u : Int) : Pc := { k := 1, u := u, y := 0, tl := [] }
/-- a > | bb, b > | cc, c > u (or | u) -/
def rsC (c u : Int) : List Rl := [rlC 97 [pcC 98, pcC 98] 0, rlC 98 [pcC 99, pcC 99] 0, rlC 99 [pcC u] c]
/-- the example's blocks -/
structure CH (W : World) (n : Nat) (c u : Int) : Prop where
  b1 : W.heap[n + 1]? = some (.cells #[.int .i64 97, .int .i64 97] 84 (0, 0))
  b2 : W.heap[n + 2]? = some (.cells #[.slice (some ⟨n + 1, 0, none⟩) 1 1] 59 (0, 0))
  b5 : W.heap[n + 5]? = some (.cells #[.int .i64 1, .int .i64 98, .int .i64 0, .slice none 0 0, .int .i64 1, .int .i64 98, .int .i64 0, .slice none 0 0] 66 (0, 0))
  b6 : W.heap[n + 6]? = some (.cells #[.int .i64 98, .int .i64 98] 84 (0, 0))
  b7 : W.heap[n + 7]? = some (.cells #[.slice (some ⟨n + 6, 0, none⟩) 1 1] 59 (0, 0))
  b10 : W.heap[n + 10]? = some (.cells #[.int .i64 1, .int .i64 99, .int .i64 0, .slice none 0 0, .int .i64 1, .int .i64 99, .int .i64 0, .slice none 0 0] 66 (0, 0))
  b11 : W.heap[n + 11]? = some (.cells #[.int .i64 99, .int .i64 99] 84 (0, 0))
  b12 : W.heap[n + 12]? = some (.cells #[.slice (some ⟨n + 11, 0, none⟩) 1 1] 59 (0, 0))
  b14 : W.heap[n + 14]? = some (.cells #[.int .i64 1, .int .i64 u, .int .i64 0, .slice none 0 0] 66 (0, 0))
  b15 : W.heap[n + 15]? = some (.cells #[.bool false, .slice none 0 0, .slice (some ⟨n + 2, 0, none⟩) 1 1, .slice none 0 0, .bool false, .slice (some ⟨n + 5, 0, none⟩) 2 2, .int .i64 0, .bool false, .slice none 0 0, .slice (some ⟨n + 7, 0, none⟩) 1 1, .slice none 0 0, .bool false, .slice (some ⟨n + 10, 0, none⟩) 2 2, .int .i64 0, .bool false, .slice none 0 0, .slice (some ⟨n + 12, 0, none⟩) 1 1, .slice none 0 0, .bool false, .slice (some ⟨n + 14, 0, none⟩) 1 1, .int .i64 c] 54 (0, 0))
theorem CH.below {W W' : World} {n : Nat} {c u : Int} (h : CH W n c u) {m : Nat} (hb : Below m W W') (hm : n + 15 < m) : CH W' n c u :=
  ⟨(hb.block _ (by omega)).trans h.b1, (hb.block _ (by omega)).trans h.b2, (hb.block _ (by omega)).trans h.b5, (hb.block _ (by omega)).trans h.b6, (hb.block _ (by omega)).trans h.b7, (hb.block _ (by omega)).trans h.b10, (hb.block _ (by omega)).trans h.b11, (hb.block _ (by omega)).trans h.b12, (hb.block _ (by omega)).trans h.b14, (hb.block _ (by omega)).trans h.b15⟩
theorem CH.lt {W : World} {n : Nat} {c u : Int} (h : CH W n c u) : n + 15 < W.heap.size := (Array.getElem?_eq_some_iff.1 h.b15).1
theorem sr_nil (W : World) : SR W (.slice none 0 0) [] := ⟨none, 0, rfl, Nat.le_refl _, .inl rfl⟩
theorem rs_nil (W : World) : Rs W (.slice none 0 0) [] := ⟨none, 0, rfl, Nat.le_refl _, .inl rfl⟩
theorem sr_one {W : World} {g g' : Nat} {a : Int} (h : W.heap[g]? = some (.cells #[.slice (some ⟨g', 0, none⟩) 1 1] 59 (0, 0))) (h' : W.heap[g']? = some (.cells #[.int .i64 a, .int .i64 a] 84 (0, 0))) : SR W (.slice (some ⟨g, 0, none⟩) 1 1) [[(a, a)]] := by
  refine ⟨_, 1, rfl, Nat.le_refl _, .inr ⟨g, 0, rfl, fun j hj => ?_⟩⟩
  obtain rfl : j = 0 := by simp at hj; omega
  refine ⟨.slice (some ⟨g', 0, none⟩) 1 1, by rw [cell_of h]; rfl, ⟨_, 1, rfl, Nat.le_refl _, .inr ⟨g', 0, rfl, fun j hj => ?_⟩⟩⟩
  obtain rfl : j = 0 := by simp at hj; omega
  rw [cell_of h', cell_of h']
  exact ⟨rfl, rfl⟩
theorem pr_two {W : World} {g : Nat} {a : Int} (h : W.heap[g]? = some (.cells #[.int .i64 1, .int .i64 a, .int .i64 0, .slice none 0 0, .int .i64 1, .int .i64 a, .int .i64 0, .slice none 0 0] 66 (0, 0))) : PR W (.slice (some ⟨g, 0, none⟩) 2 2) [pcC a, pcC a] := by
  refine ⟨_, 2, rfl, Nat.le_refl _, .inr ⟨g, 0, rfl, fun j hj => ?_⟩⟩
  have hj2 : j = 0 ∨ j = 1 := by simp at hj; omega
  rcases hj2 with rfl | rfl
  · exact ⟨.slice none 0 0, by rw [cell_of h]; rfl, by rw [cell_of h]; rfl, by rw [cell_of h]; rfl, by rw [cell_of h]; rfl, rs_nil W⟩
  · exact ⟨.slice none 0 0, by rw [cell_of h]; rfl, by rw [cell_of h]; rfl, by rw [cell_of h]; rfl, by rw [cell_of h]; rfl, rs_nil W⟩
theorem pr_one {W : World} {g : Nat} {a : Int} (h : W.heap[g]? = some (.cells #[.int .i64 1, .int .i64 a, .int .i64 0, .slice none 0 0] 66 (0, 0))) : PR W (.slice (some ⟨g, 0, none⟩) 1 1) [pcC a] := by
  refine ⟨_, 1, rfl, Nat.le_refl _, .inr ⟨g, 0, rfl, fun j hj => ?_⟩⟩
  obtain rfl : j = 0 := by simp at hj; omega
  exact ⟨.slice none 0 0, by rw [cell_of h]; rfl, by rw [cell_of h]; rfl, by rw [cell_of h]; rfl, by rw [cell_of h]; rfl, rs_nil W⟩
theorem CH.psr {W : World} {n : Nat} {c u : Int} (h : CH W n c u) : PsR W (.slice (some ⟨n + 15, 0, none⟩) 3 3) (rsC c u) := by
  refine ⟨_, 3, rfl, Nat.le_refl _, .inr ⟨n + 15, 0, rfl, fun j hj => ?_⟩⟩
  have hj3 : j = 0 ∨ j = 1 ∨ j = 2 := by simp [rsC] at hj; omega
  have h15 := h.b15
  rcases hj3 with rfl | rfl | rfl
  · exact ⟨_, _, _, _, by rw [cell_of h15]; rfl, by rw [cell_of h15]; rfl, by rw [cell_of h15]; rfl, by rw [cell_of h15]; rfl, by rw [cell_of h15]; rfl, by rw [cell_of h15]; rfl, by rw [cell_of h15]; rfl, ⟨sr_nil W, sr_one h.b2 h.b1, sr_nil W, pr_two h.b5⟩⟩
  · exact ⟨_, _, _, _, by rw [cell_of h15]; rfl, by rw [cell_of h15]; rfl, by rw [cell_of h15]; rfl, by rw [cell_of h15]; rfl, by rw [cell_of h15]; rfl, by rw [cell_of h15]; rfl, by rw [cell_of h15]; rfl, ⟨sr_nil W, sr_one h.b7 h.b6, sr_nil W, pr_two h.b10⟩⟩
  · exact ⟨_, _, _, _, by rw [cell_of h15]; rfl, by rw [cell_of h15]; rfl, by rw [cell_of h15]; rfl, by rw [cell_of h15]; rfl, by rw [cell_of h15]; rfl, by rw [cell_of h15]; rfl, by rw [cell_of h15]; rfl, ⟨sr_nil W, sr_one h.b12 h.b11, sr_nil W, pr_one h.b14⟩⟩
theorem alloc_at {W : World} {o : Obj} {k : Nat} (h : k = W.heap.size) : (W.alloc o).heap[k]? = some o := by subst h; exact heap_alloc_new _ _
theorem alloc_up {W : World} {o ob : Obj} {k : Nat} (h : W.heap[k]? = some ob) : (W.alloc o).heap[k]? = some ob := (((Grown.refl W).alloc o).below.block k (Array.getElem?_eq_some_iff.1 h).1).trans h
set_option maxHeartbeats 8000000 in
theorem chain_any (w : World) : Calls Tryd.prog 27 #[] w fun e w' => e = .returned (.agg #[.slice (some ⟨w.heap.size + 15, 0, none⟩) 3 3]) ∧ CH w' w.heap.size 1 100 ∧ Grown w w' := by
  go_enter Tryd.func27, Tryd.ntmps27
  go_wp2_with (first | (go_at_call 46; refine (one_any _ _).mono ?_; rintro e w' ⟨rfl, rfl⟩) | (go_at_call 47; refine (u_any _ _).mono ?_; rintro e w' ⟨rfl, rfl⟩))
  refine bodyPost_ret (v := .agg #[.slice (some ⟨w.heap.size + 15, 0, none⟩) 3 3]) (by simp [results, Tryd.f27, go_sem]) rfl ⟨rfl, ?_, ?_⟩
  · constructor
    all_goals first
      | exact alloc_at (by simp)
      | (repeat (first | exact alloc_at (by simp) | refine alloc_up ?_))
  · repeat (first | exact Grown.refl _ | refine Grown.alloc ?_ _)
set_option maxHeartbeats 2000000 in
theorem bound_bad (rv : Value) (rs : List Rl) (c : Int × Int) (s : ByteArray) (w : World) (hT : Tab w) (h : PsR w rv rs) (hst : wgh rs = (none, c)) :
    Calls Tryd.prog 15 #[.agg #[rv], .string s] w fun e w' => e = .returned (.int .i64 0) ∧ Below w.heap.size w w' := by
  have HC : Hid (∀ ob, Calls Tryd.prog 34 #[.agg #[rv]] (w.alloc ob) fun e w' => e = .returned (.tuple #[.pointer none, .int .i64 c.1, .int .i64 c.2]) ∧ Below w.heap.size w w') := fun ob => by
    have hg : Grown w (w.alloc ob) := (Grown.refl _).alloc ob
    refine (weighed_any rv rs (w.alloc ob) (hT.grown hg) (h.grown hg)).mono ?_
    rintro e w' ⟨hb, ⟨c', h1, rfl⟩ | ⟨st', sp, h1, rfl, hS⟩⟩
    · rw [hst] at h1
      cases h1
      exact ⟨rfl, hg.below.trans (hb.mono hg.size)⟩
    · rw [hst] at h1; cases h1
  have hc := wgh_none hst
  obtain ⟨c1, c2⟩ := c
  have hc' : (c2 != 0) = true := by simpa using hc
  obtain ⟨ra, rc, hrv, _, _⟩ := h
  subst hrv
  go_enter Tryd.func15, Tryd.ntmps15
  go_wp2_with (go_at_call 34; refine (HC.out _).mono ?_; rintro e w' ⟨rfl, hb⟩)
  go_ret
  exact ⟨rfl, hb.trans (((Grown.refl w').alloc _).below.mono hb.size)⟩
theorem bound_any (rv : Value) (rs : List Rl) (s : ByteArray) (w : World) (hT : Tab w) (h : PsR w rv rs) (hs : s.size ≤ 140737488355328) :
    Calls Tryd.prog 15 #[.agg #[rv], .string s] w fun e w' => e = .returned (.int .i64 (bndP rs s)) ∧ Below w.heap.size w w' := by
  unfold bndP
  obtain ⟨o, c, ho⟩ : ∃ o c, wgh rs = (o, c) := ⟨_, _, rfl⟩
  rw [ho]
  cases o with
  | none => exact bound_bad rv rs c s w hT h ho
  | some st =>
    have hc : c = (0, 0) := by
      unfold wgh at ho
      split at ho
      · injection ho with h1; cases h1
      · split at ho
        · injection ho with h1; cases h1
        · split at ho
          · injection ho with h1; cases h1
          · injection ho with _ h2; exact h2.symm
    subst hc
    exact bound_ok rv rs st s w hT h hs ho
theorem ex1 : chkW (rsC 1 100) = (0, 0) := by decide +kernel
theorem ex2 : chkW (rsC 0 97) = (2, 81) := by decide +kernel
theorem ex3 : wgtP (rsC 1 100) 97 = 7 := by decide +kernel
theorem ex4 : wgtP (rsC 1 100) 98 = 3 := by decide +kernel
theorem ex5 : wgtP (rsC 1 100) 100 = 1 := by decide +kernel
theorem ex6 : wgtP (rsC 0 97) 97 = 0 := by decide +kernel
theorem ex7 : bndP (rsC 1 100) ⟨#[97, 98, 99]⟩ = 11 := by decide +kernel
/-- what is known of a world in which the pass p lies -/
structure PK (w W : World) (n b : Nat) (c u : Int) : Prop where
  t : Tab W
  bl : Below w.heap.size w W
  ch : CH W n c u
  bx : W.heap[b]? = some (.cells #[.slice (some ⟨n + 15, 0, none⟩) 3 3] 24 (0, 0))
  nb : n + 15 < b
theorem PK.next {w W W' : World} {n b : Nat} {c u : Int} (h : PK w W n b c u) (hb : Below W.heap.size W W') (hw : 0 < w.heap.size) : PK w W' n b c u :=
  ⟨h.t.below hb (Nat.lt_of_lt_of_le hw h.bl.size), h.bl.trans (hb.mono h.bl.size), h.ch.below hb h.ch.lt, (hb.block b (Array.getElem?_eq_some_iff.1 h.bx).1).trans h.bx, h.nb⟩
theorem check1 {w W : World} {n b : Nat} (h : PK w W n b 1 100) (hw : 0 < w.heap.size) : Calls Tryd.prog 13 #[.agg #[.slice (some ⟨n + 15, 0, none⟩) 3 3]] W fun e w' => e = .returned (.tuple #[.int .i64 0, .int .i64 0]) ∧ PK w w' n b 1 100 := by
  have := wcheck_any _ (rsC 1 100) W h.t h.ch.psr
  rw [ex1] at this
  exact this.mono fun _ _ ⟨h1, h2⟩ => ⟨h1, h.next h2 hw⟩
theorem check2 {w W : World} {n b : Nat} (h : PK w W n b 0 97) (hw : 0 < w.heap.size) : Calls Tryd.prog 13 #[.agg #[.slice (some ⟨n + 15, 0, none⟩) 3 3]] W fun e w' => e = .returned (.tuple #[.int .i64 2, .int .i64 81]) ∧ PK w w' n b 0 97 := by
  have := wcheck_any _ (rsC 0 97) W h.t h.ch.psr
  rw [ex2] at this
  exact this.mono fun _ _ ⟨h1, h2⟩ => ⟨h1, h.next h2 hw⟩
theorem weight6 {w W : World} {n b : Nat} (h : PK w W n b 0 97) (hw : 0 < w.heap.size) : Calls Tryd.prog 14 #[.agg #[.slice (some ⟨n + 15, 0, none⟩) 3 3], .int .i64 97] W fun e w' => e = .returned (.int .i64 0) ∧ PK w w' n b 0 97 := by
  have := wweight_any _ (rsC 0 97) 97 W h.t h.ch.psr
  rw [ex6] at this
  exact this.mono fun _ _ ⟨h1, h2⟩ => ⟨h1, h.next h2 hw⟩
/-- another chain, ahead of a call -/
theorem chain2 {w W : World} {n b : Nat} (h : PK w W n b 0 97) (hw : 0 < w.heap.size) : Calls Tryd.prog 27 #[] W fun e w' => ∃ m, e = .returned (.agg #[.slice (some ⟨m + 15, 0, none⟩) 3 3]) ∧ CH w' m 1 100 ∧ PK w w' n b 0 97 :=
  (chain_any W).mono fun _ _ ⟨h1, h2, h3⟩ => ⟨_, h1, h2, h.next h3.below hw⟩
theorem weightC {w W : World} {n b m : Nat} (h : PK w W n b 0 97) (hw : 0 < w.heap.size) (hm : CH W m 1 100) (u x : Int) (hx : wgtP (rsC 1 100) u = x) : Calls Tryd.prog 14 #[.agg #[.slice (some ⟨m + 15, 0, none⟩) 3 3], .int .i64 u] W fun e w' => e = .returned (.int .i64 x) ∧ PK w w' n b 0 97 := by
  have := wweight_any _ (rsC 1 100) u W h.t hm.psr
  rw [hx] at this
  exact this.mono fun _ _ ⟨h1, h2⟩ => ⟨h1, h.next h2 hw⟩
theorem boundC {w W : World} {n b m : Nat} (h : PK w W n b 0 97) (hw : 0 < w.heap.size) (hm : CH W m 1 100) : Calls Tryd.prog 15 #[.agg #[.slice (some ⟨m + 15, 0, none⟩) 3 3], .string ⟨#[97, 98, 99]⟩] W fun e w' => e = .returned (.int .i64 11) ∧ PK w w' n b 0 97 := by
  have := bound_any _ (rsC 1 100) ⟨#[97, 98, 99]⟩ W h.t hm.psr (by decide)
  rw [ex7] at this
  exact this.mono fun _ _ ⟨h1, h2⟩ => ⟨h1, h.next h2 hw⟩
set_option maxHeartbeats 8000000 in
theorem shown_any (w : World) (hT : Tab w) : Calls Tryd.prog 8 #[] w fun e w' => e = .returned (.bool true) ∧ Below w.heap.size w w' := by
  have HT : Hid (Tab w) := hT
  have HP0 : Hid (0 < w.heap.size) := hT.pos
  clear hT
  go_enter Tryd.func8, Tryd.ntmps8
  go_wp2_with fail
  refine (chain_any w).mono ?_
  rintro e w1 ⟨rfl, hC, hG⟩
  obtain ⟨n, hn⟩ : ∃ n, w.heap.size = n := ⟨_, rfl⟩
  have HN : Hid (w.heap.size = n) := hn
  rw [hn] at hC ⊢
  have HK1 : Hid (PK w (w1.alloc (.cells #[.slice (some ⟨n + 15, 0, none⟩) 3 3] 24)) n w1.heap.size 1 100) := by
    have hg : Grown w1 (w1.alloc (.cells #[.slice (some ⟨n + 15, 0, none⟩) 3 3] 24)) := (Grown.refl _).alloc _
    exact ⟨(HT.out.grown hG).grown hg, (hG.trans hg).below, hC.below hg.below hC.lt, heap_alloc_new _ _, hC.lt⟩
  clear hC hG hn
  go_wp2_with fail
  refine (check1 HK1.out HP0.out).mono ?_
  rintro e w3 ⟨rfl, hk3⟩
  have HK3 : Hid (PK w w3 n w1.heap.size 1 100) := hk3
  obtain ⟨b, hb⟩ : ∃ b, w1.heap.size = b := ⟨_, rfl⟩
  rw [hb] at HK3 ⊢
  clear hk3 HK1 hb
  have hk := HK3.out
  have d0 : w3.cell? ⟨b, 0, none⟩ = some (.slice (some ⟨n + 15, 0, none⟩) 3 3) := by rw [cell_of hk.bx]; rfl
  have d1 : w3.cell? ⟨n + 15, 20, none⟩ = some (.int .i64 1) := by rw [cell_of hk.ch.b15]; rfl
  have f1 : w3.frozen? ⟨n + 15, 20, none⟩ = false := free_of hk.ch.b15
  obtain ⟨w4, hw4⟩ : ∃ w4, w4 = w3.setCell ⟨n + 15, 20, none⟩ (.int .i64 0) := ⟨_, rfl⟩
  have t4 : Turns (n + 15) w3 w4 := by rw [hw4]; exact turns_set _ _ _ _
  have b4 := set_heap (j := 20) (u := .int .i64 0) hk.ch.b15
  rw [← hw4] at b4
  have e0 : w4.cell? ⟨b, 0, none⟩ = some (.slice (some ⟨n + 15, 0, none⟩) 3 3) := (cell_same (t4 b (by have := hk.nb; omega))).trans d0
  have e1 : w4.cell? ⟨n + 15, 19, none⟩ = some (.slice (some ⟨n + 14, 0, none⟩) 1 1) := by rw [cell_of b4]; rfl
  have e2 : w4.cell? ⟨n + 14, 1, none⟩ = some (.int .i64 100) := (cell_same (t4 (n + 14) (by omega))).trans (by rw [cell_of hk.ch.b14]; rfl)
  have f2 : w4.frozen? ⟨n + 14, 1, none⟩ = false := free_of ((t4 (n + 14) (by omega)).trans hk.ch.b14)
  have HK5 : Hid (PK w (w4.setCell ⟨n + 14, 1, none⟩ (.int .i64 97)) n b 0 97) := by
    have t5 := turns_set w4 (n + 14) 1 (.int .i64 97)
    have hk' : ∀ {k : Nat} {o : Obj}, k ≠ n + 14 → k ≠ n + 15 → w3.heap[k]? = some o → (w4.setCell ⟨n + 14, 1, none⟩ (.int .i64 97)).heap[k]? = some o := fun {k o} h1 h2 h3 => (t5 k h1).trans ((t4 k h2).trans h3)
    have hN := HN.out
    have hbl : Below w.heap.size w (w4.setCell ⟨n + 14, 1, none⟩ (.int .i64 97)) := by
      rw [hw4]
      exact (hk.bl.setCell (p := ⟨n + 15, 20, none⟩) (by simp only; omega) _).setCell (p := ⟨n + 14, 1, none⟩) (by simp only; omega) _
    refine ⟨HT.out.below hbl HP0.out, hbl, ⟨hk' (by omega) (by omega) hk.ch.b1, hk' (by omega) (by omega) hk.ch.b2, hk' (by omega) (by omega) hk.ch.b5, hk' (by omega) (by omega) hk.ch.b6, hk' (by omega) (by omega) hk.ch.b7, hk' (by omega) (by omega) hk.ch.b10, hk' (by omega) (by omega) hk.ch.b11, hk' (by omega) (by omega) hk.ch.b12, ?_, ?_⟩, hk' (by have := hk.nb; omega) (by have := hk.nb; omega) hk.bx, hk.nb⟩
    · rw [set_heap ((t4 (n + 14) (by omega)).trans hk.ch.b14)]; rfl
    · rw [t5 (n + 15) (by omega), b4]; rfl
  clear hk t4 b4 HK3
  rw [hw4] at e0 e1 e2 f2 HK5
  clear hw4
  go_wp2_with fail
  refine (check2 HK5.out HP0.out).mono ?_
  rintro e w6 ⟨rfl, hk6⟩
  clear d0 d1 f1 e0 e1 e2 f2 HK5
  have HK6 : Hid (PK w w6 n b 0 97) := hk6
  clear hk6
  go_wp2_with fail
  refine (chain2 HK6.out HP0.out).mono ?_
  rintro e w7 ⟨m7, rfl, hm7, hk7⟩
  have HK7 : Hid (PK w w7 n b 0 97 ∧ CH w7 m7 1 100) := ⟨hk7, hm7⟩
  clear hk7 hm7 HK6
  go_wp2_with fail
  refine (weightC HK7.out.1 HP0.out HK7.out.2 97 7 ex3).mono ?_
  rintro e w8 ⟨rfl, hk8⟩
  have HK8 : Hid (PK w w8 n b 0 97) := hk8
  clear hk8 HK7
  go_wp2_with fail
  refine (chain2 HK8.out HP0.out).mono ?_
  rintro e w9 ⟨m9, rfl, hm9, hk9⟩
  have HK9 : Hid (PK w w9 n b 0 97 ∧ CH w9 m9 1 100) := ⟨hk9, hm9⟩
  clear hk9 hm9 HK8
  go_wp2_with fail
  refine (weightC HK9.out.1 HP0.out HK9.out.2 98 3 ex4).mono ?_
  rintro e w10 ⟨rfl, hk10⟩
  have HK10 : Hid (PK w w10 n b 0 97) := hk10
  clear hk10 HK9
  go_wp2_with fail
  refine (chain2 HK10.out HP0.out).mono ?_
  rintro e w11 ⟨m11, rfl, hm11, hk11⟩
  have HK11 : Hid (PK w w11 n b 0 97 ∧ CH w11 m11 1 100) := ⟨hk11, hm11⟩
  clear hk11 hm11 HK10
  go_wp2_with fail
  refine (weightC HK11.out.1 HP0.out HK11.out.2 100 1 ex5).mono ?_
  rintro e w12 ⟨rfl, hk12⟩
  have HK12 : Hid (PK w w12 n b 0 97) := hk12
  have d12 : w12.cell? ⟨b, 0, none⟩ = some (.slice (some ⟨n + 15, 0, none⟩) 3 3) := by rw [cell_of hk12.bx]; rfl
  clear hk12 HK11
  go_wp2_with fail
  refine (weight6 HK12.out HP0.out).mono ?_
  rintro e w13 ⟨rfl, hk13⟩
  have HK13 : Hid (PK w w13 n b 0 97) := hk13
  clear hk13 HK12 d12
  go_wp2_with fail
  refine (chain2 HK13.out HP0.out).mono ?_
  rintro e w14 ⟨m14, rfl, hm14, hk14⟩
  have HK14 : Hid (PK w w14 n b 0 97 ∧ CH w14 m14 1 100) := ⟨hk14, hm14⟩
  clear hk14 hm14 HK13
  go_wp2_with fail
  refine (boundC HK14.out.1 HP0.out HK14.out.2).mono ?_
  rintro e w15 ⟨rfl, hk15⟩
  have HK15 : Hid (PK w w15 n b 0 97) := hk15
  clear hk15 HK14
  go_wp2
  go_ret
  exact ⟨rfl, HK15.out.bl⟩
set_option maxHeartbeats 2000000 in
theorem wnames_any (w : World) (hT : Tab w) : Calls Tryd.prog 6 #[] w fun e w' => e = .returned (.bool true) ∧ Below w.heap.size w w' := by
  have HS : Hid (Calls Tryd.prog 8 #[] w fun e w' => e = .returned (.bool true) ∧ Below w.heap.size w w') := shown_any w hT
  go_enter Tryd.func6, Tryd.ntmps6
  go_wp2_with (go_at_call 8; refine HS.out.mono ?_; rintro e w' ⟨rfl, hb⟩)
  go_ret
  exact ⟨rfl, hb⟩
end Go.Proofs
