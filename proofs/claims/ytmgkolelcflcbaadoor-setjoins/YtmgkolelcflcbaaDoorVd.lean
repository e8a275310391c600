/-
  Has, Len, Place and Nth of a set.
-/
import Derived.RangeFuncNested
import Derived.RangeFuncBound
import Derived.RangeFuncCalls
import Derived.RangeFuncLeaves
import Derived.Shelf.Abstract
import Derived.Shelf.RegionOpen
import Derived.WalkKit
import Derived.WalkSpells
import Derived.WalkLawsBesides
import Derived.OwnWalkIn
import Derived.TacticsInMore
import Derived.LoopNIn
import Derived.LoopIn
import Derived.BigQuiet
import Derived.RegionIn
import Derived.Deep.QuietTactic
import Derived.Deep.RegionWith
import Derived.Lib.OthersKept
import Derived.Maps.AppendAt
import Derived.Lib.SmallJoins
import Derived.Test.YtmgkolelcflcbaaDoorVc
namespace Go.Proofs
open Go.RowKit Go.Shelf

set_option maxRecDepth 100000
attribute [local go_sem] Oper.semAt_some
set_option maxHeartbeats 1000000 in
theorem has_any (v : Value) (l : List (Int × Int)) (u : Int) (w : World) (hT : Tab w) (h : Rs w v l) : Calls Tryd.prog 29 #[v, .int .i64 u] w fun e w' => e = .returned (.bool (validB l && decide (hasU l u))) ∧ Grown w w' := by
  have HC : Hid (Calls Tryd.prog 53 #[v, .int .i64 u] w fun e w' => e = .returned (.tuple #[.int .i64 (if validB l then (fnd l u : Int) else 0), .bool (validB l && decide (hasU l u))]) ∧ Grown w w') := find_any v l u w hT h
  generalize (if validB l then (fnd l u : Int) else 0) = a at HC
  generalize (validB l && decide (hasU l u)) = b at HC ⊢
  clear h
  go_enter Tryd.func29, Tryd.ntmps29
  go_wp2_with (go_at_call 53; refine HC.out.mono ?_; rintro e w' ⟨rfl, hb⟩)
  go_ret
  exact ⟨rfl, hb⟩
/-! how many units -/
def tot (l : List (Int × Int)) : Int := (l.map fun x => x.2 - x.1 + 1).sum
theorem tot_nil : tot [] = 0 := rfl
theorem tot_cons (x : Int × Int) (l : List (Int × Int)) : tot (x :: l) = (x.2 - x.1 + 1) + tot l := by simp [tot]
theorem tot_snoc (l : List (Int × Int)) (x : Int × Int) : tot (l ++ [x]) = tot l + (x.2 - x.1 + 1) := by simp [tot]
theorem tot_succ {l : List (Int × Int)} {k : Nat} (hk : k < l.length) : tot (l.take (k + 1)) = tot (l.take k) + ((rg l k).2 - (rg l k).1 + 1) := by
  rw [List.take_succ_eq_append_getElem hk, tot_snoc, rg_lt hk]
theorem tot_bound {l : List (Int × Int)} (h : ∀ x ∈ l, Whole x) : 0 ≤ tot l ∧ tot l ≤ l.length * 1114368 := by
  induction l with
  | nil => simp [tot]
  | cons x l ih =>
    have h1 := ih (fun y hy => h y (by simp [hy]))
    have h2 := h x (by simp)
    obtain ⟨h3, h4⟩ := h2
    rw [tot_cons]
    simp only [List.length_cons, Int.natCast_add, Int.natCast_one]
    omega
set_option maxHeartbeats 1000000 in
theorem count_walk (g o c : Nat) (l : List (Int × Int)) (w : World) (hn : l.length ≤ 512) (hW : ∀ x ∈ l, Whole x) (h : Reads w g o l) :
    Calls Tryd.prog 54 #[.slice (some ⟨g, o, none⟩) l.length c] w fun e w' => e = .returned (.int .i64 (tot l)) ∧ Grown w w' := by
  obtain ⟨n, hnn⟩ : ∃ n, l.length = n := ⟨_, rfl⟩
  have HN : Hid (l.length = n) := hnn
  rw [hnn] at hn ⊢
  obtain ⟨r, hr⟩ : ∃ r : Int, tot l = r := ⟨_, rfl⟩
  have HR : Hid (tot l = r) := hr
  rw [hr]
  clear hr hnn
  have HH : Hid (Reads w g o l) := h
  have HW : Hid (∀ x ∈ l, Whole x) := hW
  clear h hW
  go_enter Tryd.func54, Tryd.ntmps54
  go_wp2
  go_loopw [3, 8] (fun vt vi wr => ∃ k : Nat, ∃ t : Int, vi = .int .i64 k ∧ vt = .int .i64 t ∧ k ≤ n ∧ Hid (tot (l.take k) = t) ∧ Grown w wr) (fun _ vi _ => n - (intOf vi).toNat)
  case atStart => exact ⟨0, 0, rfl, rfl, by omega, rfl, Grown.refl _⟩
  case round =>
    obtain ⟨k, t, rfl, rfl, hk, hTt, hB⟩ := hrel
    by_cases hlt : k < n
    · have hlt' : (k : Int) < (n : Int) := by omega
      have hpos : (0 : Int) ≤ (k : Int) := by omega
      have hkl : k < l.length := by rw [HN.out]; exact hlt
      obtain ⟨a, b, hab⟩ : ∃ a b : Int, rg l k = (a, b) := ⟨_, _, rfl⟩
      obtain ⟨ca, cb⟩ := HH.out k hkl
      rw [hab] at ca cb
      simp only at ca cb
      have ca := hB.cellv ca
      have cb := hB.cellv cb
      have hw : Whole (a, b) := by rw [← hab, rg_lt hkl]; exact HW.out _ (List.getElem_mem hkl)
      have hb0 : 0 ≤ t ∧ t ≤ 512 * 1114368 := by
        have := tot_bound (l := l.take k) (fun x hx => HW.out x (List.mem_of_mem_take hx))
        rw [hTt.out, List.length_take] at this
        omega
      obtain ⟨t1, t2⟩ := hb0
      have hab0 : a ≤ b ∧ 0 ≤ a ∧ b ≤ 1114367 := by rw [whole_iff] at hw; omega
      obtain ⟨a1, a2, a3⟩ := hab0
      have HS : Hid (tot (l.take (k + 1)) = t + (b - a + 1)) := by have := tot_succ hkl; rw [hTt.out, hab] at this; exact this
      clear hab hTt hw
      go_wp2
      exact ⟨⟨k + 1, t + (b - a + 1), by go_num, by go_num, by omega, HS, hB.alloc _⟩, by simp [intOf]; omega⟩
    · have hrf : t = r := by
        rw [← HR.out, ← hTt.out, List.take_of_length_le (by rw [HN.out]; omega)]
      have HF : Hid (t = r) := hrf
      clear hTt hrf
      go_wp2
      go_ret
      exact ⟨by rw [HF.out]; rfl, hB⟩
set_option maxHeartbeats 1000000 in
theorem count_nil (a : Option Addr) (c : Nat) (w : World) : Calls Tryd.prog 54 #[.slice a 0 c] w fun e w' => e = .returned (.int .i64 0) ∧ Grown w w' := by
  go_enter Tryd.func54, Tryd.ntmps54
  go_wp2
  go_loopw [3, 8] (fun vt vi wr => vi = .int .i64 0 ∧ vt = .int .i64 0 ∧ wr = w) (fun _ _ _ => 0)
  case atStart => exact ⟨rfl, rfl, rfl⟩
  case round =>
    obtain ⟨rfl, rfl, rfl⟩ := hrel
    go_wp2
    go_ret
    exact ⟨rfl, Grown.refl _⟩
theorem count_any (v : Value) (l : List (Int × Int)) (w : World) (hn : l.length ≤ 512) (hW : ∀ x ∈ l, Whole x) (h : Rs w v l) : Calls Tryd.prog 54 #[v] w fun e w' => e = .returned (.int .i64 (tot l)) ∧ Grown w w' := by
  obtain ⟨a, c, rfl, _, h⟩ := h
  rcases h with rfl | ⟨g, o, rfl, h⟩
  · exact count_nil a c w
  · exact count_walk g o c l w hn hW h
def lenU (l : List (Int × Int)) : Int := if validB l then tot l else 0
set_option maxHeartbeats 1000000 in
theorem len_any (v : Value) (l : List (Int × Int)) (w : World) (hT : Tab w) (h : Rs w v l) : Calls Tryd.prog 31 #[v] w fun e w' => e = .returned (.int .i64 (lenU l)) ∧ Grown w w' := by
  have HC : Hid (Calls Tryd.prog 19 #[v] w fun e w' => e = .returned (.bool (validB l)) ∧ Grown w w') := valid_any v l w hT h
  have HR : Hid (Rs w v l) := h
  clear h
  unfold lenU
  by_cases hv : validB l = true
  · have hv' := (validB_iff l).1 hv
    have HS : Hid (∀ W, Grown w W → Calls Tryd.prog 54 #[v] W fun e w' => e = .returned (.int .i64 (tot l)) ∧ Grown W w') := fun W hW => count_any v l W hv'.1 hv'.2.1 (HR.out.below hW.below (Nat.le_refl _))
    rw [hv] at HC
    rw [if_pos hv]
    generalize tot l = r at HS ⊢
    clear hv hv' HR
    go_enter Tryd.func31, Tryd.ntmps31
    go_wp2_with fail
    refine HC.out.mono ?_
    rintro e w1 ⟨rfl, hb1⟩
    go_wp2_with fail
    refine (HS.out _ hb1).mono ?_
    rintro e w2 ⟨rfl, hb2⟩
    go_wp2
    go_ret
    exact ⟨rfl, hb1.trans hb2⟩
  · have hv' : validB l = false := by simpa using hv
    rw [hv'] at HC
    rw [if_neg hv]
    clear hv hv' HR
    go_enter Tryd.func31, Tryd.ntmps31
    go_wp2_with fail
    refine HC.out.mono ?_
    rintro e w1 ⟨rfl, hb1⟩
    go_wp2
    go_ret
    exact ⟨rfl, hb1⟩
/-! Place -/
def placeU (l : List (Int × Int)) (u : Int) : Int := tot (l.take (fnd l u)) + u - (rg l (fnd l u)).1
theorem Reads.take {w : World} {g o : Nat} {l : List (Int × Int)} (h : Reads w g o l) (k : Nat) : Reads w g o (l.take k) := fun j hj => by
  rw [List.length_take] at hj
  have := h j (by omega)
  rwa [show rg (l.take k) j = rg l j by simp only [rg]; rw [List.getElem?_take_of_lt (by omega)]]
theorem Rs.take {w : World} {g o n c : Nat} {l : List (Int × Int)} (h : Rs w (.slice (some ⟨g, o, none⟩) n c) l) {k : Nat} (hk : k ≤ l.length) : Rs w (.slice (some ⟨g, o, none⟩) k k) (l.take k) := by
  obtain ⟨a, cap, hs, hcp, h⟩ := h
  refine ⟨some ⟨g, o, none⟩, k, by rw [List.length_take, Nat.min_eq_left hk], by rw [List.length_take]; omega, ?_⟩
  rcases h with rfl | ⟨g', o', rfl, h⟩
  · exact .inl (by simp)
  · cases hs; exact .inr ⟨g, o, rfl, h.take k⟩
set_option maxHeartbeats 1000000 in
theorem place_in (g o c : Nat) (l : List (Int × Int)) (u : Int) (w : World) (hT : Tab w) (h : Rs w (.slice (some ⟨g, o, none⟩) l.length c) l) (hv : validB l = true) (hh : hasU l u) : Calls Tryd.prog 23 #[.slice (some ⟨g, o, none⟩) l.length c, .int .i64 u] w fun e w' => e = .returned (.tuple #[.int .i64 (placeU l u), .bool true]) ∧ Grown w w' := by
  have hv' := (validB_iff l).1 hv
  have hlt : fnd l u < l.length := by
    have h1 := fnd_le l u
    by_cases e : fnd l u = l.length
    · exact absurd hh (hasU_end hv'.2 e)
    · omega
  obtain ⟨k, hk⟩ : ∃ k, fnd l u = k := ⟨_, rfl⟩
  obtain ⟨n, hn⟩ : ∃ n, l.length = n := ⟨_, rfl⟩
  obtain ⟨y, hy⟩ : ∃ y, (rg l k).1 = y := ⟨_, rfl⟩
  obtain ⟨t, ht⟩ : ∃ t, tot (l.take k) = t := ⟨_, rfl⟩
  have HC : Hid (Calls Tryd.prog 53 #[.slice (some ⟨g, o, none⟩) n c, .int .i64 u] w fun e w' => e = .returned (.tuple #[.int .i64 k, .bool true]) ∧ Grown w w') := by
    have := find_any _ l u w hT h
    rw [hv, decide_eq_true hh, hk, hn] at this
    exact this
  have HR : Hid (∀ W, Grown w W → W.cell? ⟨g, o + k * 2, none⟩ = some (.int .i64 y)) := fun W hW => by
    obtain ⟨a', cap', hs', _, h'⟩ := h
    cases hs'
    rcases h' with rfl | ⟨g', o', hgo, h'⟩
    · simp at hlt
    · cases hgo
      have := (h' k (by omega)).1
      rw [hy] at this
      exact hW.cellv this
  have HS : Hid (∀ W, Grown w W → Calls Tryd.prog 54 #[.slice (some ⟨g, o, none⟩) k k] W fun e w' => e = .returned (.int .i64 t) ∧ Grown W w') := fun W hW => by
    have := count_any _ (l.take k) W (by rw [List.length_take]; omega) (fun x hx => hv'.2.1 x (List.mem_of_mem_take hx)) ((h.below hW.below (Nat.le_refl _)).take (k := k) (by omega))
    rw [ht] at this; exact this
  have hcp : n ≤ c := by obtain ⟨a', cap', hs', hcp, _⟩ := h; cases hs'; omega
  have hP : placeU l u = t + u - y := by unfold placeU; rw [hk, ht, hy]
  have hw := good_at hv'.2 (show k < l.length by omega)
  have hys : y ≤ u ∧ 0 ≤ y ∧ u ≤ 1114367 := by
    have h1 := (hasU_in hv'.2 hlt).1 hh
    rw [hk, hy] at h1
    have h2 : ¬ (rg l k).2 < u := fun e => by have := (fnd_lt hv'.2 u (show k < l.length by omega)).2 e; omega
    have h3 := hw.2
    rw [hy] at h3
    omega
  have hts : 0 ≤ t ∧ t ≤ 512 * 1114368 := by
    have := tot_bound (l := l.take k) (fun x hx => hv'.2.1 x (List.mem_of_mem_take hx))
    rw [ht, List.length_take] at this
    omega
  obtain ⟨y1, y2, y3⟩ := hys
  obtain ⟨t1, t2⟩ := hts
  have hkn : (k : Int) < (n : Int) := by omega
  have hk0 : (0 : Int) ≤ (k : Int) := by omega
  have hkc : (k : Int) ≤ (c : Int) := by omega
  rw [hn, hP]
  have hm := mixed
  clear h hv hh hv' hlt hk hn hy ht hP hw
  go_enter Tryd.func23, Tryd.ntmps23
  go_wp2_with fail
  refine HC.out.mono ?_
  rintro e w1 ⟨rfl, hb1⟩
  have k3 := fun m os => HR.out (Go.Sort.grow (w1.drewN m) os) (hb1.trans ⟨m, os, rfl⟩)
  have HS1 : Hid (∀ m os, Calls Tryd.prog 54 #[.slice (some ⟨g, o, none⟩) k k] (Go.Sort.grow (w1.drewN m) os) fun e w' => e = .returned (.int .i64 t) ∧ Grown (Go.Sort.grow (w1.drewN m) os) w') := fun m os => HS.out _ (hb1.trans ⟨m, os, rfl⟩)
  go_wp2
  refine wp_region_quiet_grown hm (by kernel_rfl) ?_
  repeat (go_big_quiet_step ((go_at_call 54; exact grown_of (HS1.out _ _))))
  refine wpQuiet_nil ?_
  intro _ hw'
  obtain ⟨⟨nq, osq⟩, hw''⟩ := hw'
  subst hw''
  go_wp2
  go_ret2
  exact ⟨rfl, hb1.quiet _ _⟩
set_option maxHeartbeats 1000000 in
theorem place_no (v : Value) (l : List (Int × Int)) (u : Int) (w : World) (hT : Tab w) (h : Rs w v l) (hb : (validB l && decide (hasU l u)) = false) : Calls Tryd.prog 23 #[v, .int .i64 u] w fun e w' => e = .returned (.tuple #[.int .i64 0, .bool false]) ∧ Grown w w' := by
  have HC : Hid (Calls Tryd.prog 53 #[v, .int .i64 u] w fun e w' => e = .returned (.tuple #[.int .i64 (if validB l then (fnd l u : Int) else 0), .bool false]) ∧ Grown w w') := by have := find_any v l u w hT h; rw [hb] at this; exact this
  generalize (if validB l then (fnd l u : Int) else 0) = a at HC
  clear h hb
  go_enter Tryd.func23, Tryd.ntmps23
  go_wp2_with (go_at_call 53; refine HC.out.mono ?_; rintro e w' ⟨rfl, hb⟩)
  go_ret2
  exact ⟨rfl, hb⟩
theorem place_any (v : Value) (l : List (Int × Int)) (u : Int) (w : World) (hT : Tab w) (h : Rs w v l) : Calls Tryd.prog 23 #[v, .int .i64 u] w fun e w' => e = .returned (.tuple #[.int .i64 (if validB l && decide (hasU l u) then placeU l u else 0), .bool (validB l && decide (hasU l u))]) ∧ Grown w w' := by
  by_cases hb : (validB l && decide (hasU l u)) = true
  · rw [if_pos hb, hb]
    simp only [Bool.and_eq_true, decide_eq_true_eq] at hb
    obtain ⟨a, c, rfl, hcp, hr⟩ := h
    rcases hr with rfl | ⟨g, o, rfl, hr⟩
    · obtain ⟨x, hx, _⟩ := hb.2; simp at hx
    · exact place_in g o c l u w hT ⟨_, c, rfl, hcp, .inr ⟨g, o, rfl, hr⟩⟩ hb.1 hb.2
  · have hb' : (validB l && decide (hasU l u)) = false := by simpa using hb
    rw [if_neg hb, hb']
    exact place_no v l u w hT h hb'
/-! Nth -/
def nthL : List (Int × Int) → Int → Option Int
  | [], _ => none
  | x :: r, n => if n < x.2 - x.1 + 1 then some (x.1 + n) else nthL r (n - (x.2 - x.1 + 1))
theorem drop_rg {l : List (Int × Int)} {k : Nat} (hk : k < l.length) : l.drop k = rg l k :: l.drop (k + 1) := by
  rw [rg_lt hk, List.drop_eq_getElem_cons hk]
def nthU (l : List (Int × Int)) (n : Int) : Option Int := if n < 0 ∨ validB l = false then none else nthL l n
set_option maxHeartbeats 1000000 in
theorem nth_neg (v : Value) (n : Int) (w : World) (hn : n < 0) : Calls Tryd.prog 25 #[v, .int .i64 n] w fun e w' => e = .returned (.tuple #[.int .i64 0, .bool false]) ∧ Grown w w' := by
  go_enter Tryd.func25, Tryd.ntmps25
  go_wp2
  go_ret2
  exact ⟨rfl, Grown.refl _⟩
set_option maxHeartbeats 1000000 in
theorem nth_bad (v : Value) (l : List (Int × Int)) (n : Int) (w : World) (hT : Tab w) (h : Rs w v l) (hn : 0 ≤ n) (hv : validB l = false) : Calls Tryd.prog 25 #[v, .int .i64 n] w fun e w' => e = .returned (.tuple #[.int .i64 0, .bool false]) ∧ Grown w w' := by
  have HC : Hid (Calls Tryd.prog 19 #[v] w fun e w' => e = .returned (.bool false) ∧ Grown w w') := by have := valid_any v l w hT h; rw [hv] at this; exact this
  have hd : decide (n < 0) = false := by simp; omega
  clear h hv
  go_enter Tryd.func25, Tryd.ntmps25
  go_wp2_with (go_at_call 19; refine HC.out.mono ?_; rintro e w' ⟨rfl, hb⟩)
  go_ret2
  exact ⟨rfl, hb⟩
set_option maxHeartbeats 1000000 in
theorem nth_nil (a : Option Addr) (c : Nat) (n : Int) (w : World) (_hT : Tab w) (hn : 0 ≤ n) : Calls Tryd.prog 25 #[.slice a 0 c, .int .i64 n] w fun e w' => e = .returned (.tuple #[.int .i64 0, .bool false]) ∧ Grown w w' := by
  have HC : Hid (Calls Tryd.prog 19 #[.slice a 0 c] w fun e w' => e = .returned (.bool true) ∧ Grown w w') := by have := valid_nil a c w; rw [show validB [] = true by decide] at this; exact this
  have hd : decide (n < 0) = false := by simp; omega
  go_enter Tryd.func25, Tryd.ntmps25
  go_wp2_with fail
  refine HC.out.mono ?_
  rintro e w1 ⟨rfl, hb1⟩
  go_wp2
  go_loopw [1, 18] (fun vn vi wr => vi = .int .i64 0 ∧ wr = w1) (fun _ _ _ => 0)
  case atStart => exact ⟨rfl, rfl⟩
  case round =>
    obtain ⟨rfl, rfl⟩ := hrel
    go_wp2
    go_ret2
    exact ⟨rfl, hb1⟩
def nthV (r : Option Int) : Value := .tuple #[.int .i64 (r.getD 0), .bool r.isSome]
set_option maxHeartbeats 1000000 in
theorem nth_walk (g o c : Nat) (l : List (Int × Int)) (n0 : Int) (w : World) (hT : Tab w) (h : Reads w g o l) (hcp : l.length ≤ c) (hv : validB l = true) (hn0 : 0 ≤ n0) (hnm : n0 ≤ 9223372036854775807) : Calls Tryd.prog 25 #[.slice (some ⟨g, o, none⟩) l.length c, .int .i64 n0] w fun e w' => e = .returned (nthV (nthL l n0)) ∧ Grown w w' := by
  have hv' := (validB_iff l).1 hv
  obtain ⟨n, hn⟩ : ∃ n, l.length = n := ⟨_, rfl⟩
  have HN : Hid (l.length = n) := hn
  have HC : Hid (Calls Tryd.prog 19 #[.slice (some ⟨g, o, none⟩) n c] w fun e w' => e = .returned (.bool true) ∧ Grown w w') := by have := valid_any _ l w hT ⟨_, c, rfl, hcp, .inr ⟨g, o, rfl, h⟩⟩; rw [hv, hn] at this; exact this
  obtain ⟨r, hr⟩ : ∃ r, nthL l n0 = r := ⟨_, rfl⟩
  have HR : Hid (nthL l n0 = r) := hr
  have HH : Hid (Reads w g o l) := h
  have HW : Hid (Good l) := hv'.2
  have hd : decide (n0 < 0) = false := by simp; omega
  have hn5 : n ≤ 512 := by omega
  rw [hn, hr]
  clear hr hn h hv hv' hcp
  go_enter Tryd.func25, Tryd.ntmps25
  go_wp2_with fail
  refine HC.out.mono ?_
  rintro e w1 ⟨rfl, hb1⟩
  go_wp2
  go_loopw [1, 18] (fun vn vi wr => ∃ k : Nat, ∃ t : Int, vi = .int .i64 k ∧ vn = .int .i64 t ∧ k ≤ n ∧ 0 ≤ t ∧ t ≤ 9223372036854775807 ∧ Hid (nthL (l.drop k) t = r) ∧ Grown w wr) (fun _ vi _ => n - (intOf vi).toNat)
  case atStart => exact ⟨0, n0, rfl, rfl, by omega, hn0, hnm, HR, hb1⟩
  case round =>
    obtain ⟨k, t, rfl, rfl, hk, t1, t2, hTt, hB⟩ := hrel
    by_cases hlt : k < n
    · have hlt' : (k : Int) < (n : Int) := by omega
      have hpos : (0 : Int) ≤ (k : Int) := by omega
      have hkl : k < l.length := by rw [HN.out]; exact hlt
      obtain ⟨a, b, hab⟩ : ∃ a b : Int, rg l k = (a, b) := ⟨_, _, rfl⟩
      obtain ⟨ca, cb⟩ := HH.out k hkl
      rw [hab] at ca cb
      simp only at ca cb
      have ca := hB.cellv ca
      have cb := hB.cellv cb
      have hw : Whole (a, b) := by rw [← hab]; exact good_at HW.out hkl
      have hab0 : a ≤ b ∧ 0 ≤ a ∧ b ≤ 1114367 := by rw [whole_iff] at hw; omega
      obtain ⟨a1, a2, a3⟩ := hab0
      have HS : Hid ((if t < b - a + 1 then some (a + t) else nthL (l.drop (k + 1)) (t - (b - a + 1))) = r) := by have := hTt.out; rw [drop_rg hkl, hab] at this; exact this
      clear hab hTt hw
      by_cases ht : t < b - a + 1
      · have HS2 : Hid (some (a + t) = r) := by have := HS.out; rw [if_pos ht] at this; exact this
        clear HS
        go_wp2
        go_ret2
        refine ⟨?_, hB.alloc _⟩
        rw [← HS2.out]; rfl
      · have HS2 : Hid (nthL (l.drop (k + 1)) (t - (b - a + 1)) = r) := by have := HS.out; rw [if_neg ht] at this; exact this
        have hd2 : decide (t < b - a + 1) = false := by simp; omega
        clear HS
        go_wp2
        exact ⟨⟨k + 1, t - (b - a + 1), by go_num, by go_num, by omega, by omega, by omega, HS2, hB.alloc _⟩, by simp [intOf]; omega⟩
    · have HS2 : Hid (none = r) := by have := hTt.out; rw [List.drop_eq_nil_of_le (by rw [HN.out]; omega)] at this; exact this
      clear hTt
      go_wp2
      go_ret2
      refine ⟨?_, hB⟩
      rw [← HS2.out]; rfl
theorem nth_any (v : Value) (l : List (Int × Int)) (n : Int) (w : World) (hT : Tab w) (h : Rs w v l) (hnm : n ≤ 9223372036854775807) : Calls Tryd.prog 25 #[v, .int .i64 n] w fun e w' => e = .returned (nthV (nthU l n)) ∧ Grown w w' := by
  unfold nthU
  by_cases hn : n < 0
  · rw [if_pos (.inl hn)]; exact nth_neg v n w hn
  · by_cases hv : validB l = false
    · rw [if_pos (.inr hv)]; exact nth_bad v l n w hT h (by omega) hv
    · rw [if_neg (by simp [hv]; omega)]
      obtain ⟨a, c, rfl, hcp, hr⟩ := h
      rcases hr with rfl | ⟨g, o, rfl, hr⟩
      · exact nth_nil a c n w hT (by omega)
      · exact nth_walk g o c l n w hT hr hcp (by simpa using hv) (by omega) hnm
end Go.Proofs
