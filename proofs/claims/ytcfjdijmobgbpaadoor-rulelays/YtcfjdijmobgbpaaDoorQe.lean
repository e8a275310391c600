/-
  The document's Stands and Lays.
-/
import Derived.RangeFuncNested
import Derived.RangeFuncBound
import Derived.RangeFuncCalls
import Derived.RangeFuncLeaves
import Derived.Shelf.Abstract
import Derived.Shelf.RegionOpen
import Derived.WalkKit
import Derived.WalkSpells
import Derived.WalkLawsBesides
import Derived.OwnWalkIn
import Derived.TacticsInMore
import Derived.LoopNIn
import Derived.LoopIn
import Derived.BigQuiet
import Derived.RegionIn
import Derived.Deep.QuietTactic
import Derived.Deep.RegionWith
import Derived.Lib.OthersKept
import Derived.Maps.AppendAt
import Derived.Lib.SmallJoins
import Derived.Shelf.SlSortCmp.QuietGrown
import Derived.Test.YtcfjdijmobgbpaaDoorQc
import Derived.Test.YtcfjdijmobgbpaaDoorWe
import Derived.Test.YtcfjdijmobgbpaaDoorWf
import Derived.Test.YtcfjdijmobgbpaaDoorRc
namespace Go.Proofs
open Go.RowKit Go.Shelf

set_option maxRecDepth 100000
attribute [local go_sem] Oper.semAt_some
attribute [local go_sem ↓] Go.wp_at_zero Go.wp_at_succ
set_option maxHeartbeats 2000000 in
theorem in_walk (A : Option Addr) (c : Nat) (l : List (Int × Int)) (u : Int) (w : World) (h : l = [] ∨ ∃ g o, A = some ⟨g, o, none⟩ ∧ Reads w g o l) (hn : l.length ≤ 1152921504606846976) :
    Calls Tryd.prog 75 #[.slice A l.length c, .int .i64 u] w fun e w' => e = .returned (.bool (decide (hasU l u))) ∧ Grown w w' := by
  obtain ⟨n, hnn⟩ : ∃ n, l.length = n := ⟨_, rfl⟩
  have HN : Hid (l.length = n) := hnn
  have HH : Hid (l = [] ∨ ∃ g o, A = some ⟨g, o, none⟩ ∧ Reads w g o l) := h
  rw [hnn] at hn ⊢
  obtain ⟨r, hr⟩ : ∃ r : Bool, decide (hasU l u) = r := ⟨_, rfl⟩
  have HR : Hid (decide (hasU l u) = r) := hr
  rw [hr]
  clear hr hnn h
  go_enter Tryd.func75, Tryd.ntmps75
  go_wp2
  go_loopw [5] (fun vi wr => ∃ k : Nat, vi = .int .i64 k ∧ k ≤ n ∧ Hid (∀ j, j < k → ¬ ((rg l j).1 ≤ u ∧ u ≤ (rg l j).2)) ∧ Grown w wr) (fun vi _ => n - (intOf vi).toNat)
  case atStart => exact ⟨0, rfl, by omega, fun j hj => by omega, Grown.refl _⟩
  case round =>
    obtain ⟨k, rfl, hk, hT, hG⟩ := hrel
    have hpos : (0 : Int) ≤ (k : Int) := by omega
    by_cases hlt : k < n
    · have hlt' : (k : Int) < (n : Int) := by omega
      have hkl : k < l.length := by rw [HN.out]; exact hlt
      obtain ⟨g, o, hA, hr1⟩ := HH.out.resolve_left (fun e => by rw [e] at hkl; simp at hkl)
      subst hA
      obtain ⟨p, q, hpq⟩ : ∃ p q : Int, rg l k = (p, q) := ⟨_, _, rfl⟩
      have x1 := hr1 k hkl
      rw [hpq] at x1
      have cp := hG.cellv x1.1
      have cq := hG.cellv x1.2
      simp only at cp cq
      have HNx : Hid (¬ (p ≤ u ∧ u ≤ q) → ∀ j, j < k + 1 → ¬ ((rg l j).1 ≤ u ∧ u ≤ (rg l j).2)) := fun hno j hj => by
        by_cases e : j = k
        · subst e; rw [hpq]; exact hno
        · exact hT.out j (by omega)
      have HYs : Hid ((p ≤ u ∧ u ≤ q) → r = true) := fun hy => by
        rw [← HR.out, decide_eq_true_eq, hasU_iff]
        exact ⟨k, hkl, by rw [hpq]; exact hy⟩
      clear x1 hr1 hpq hT
      by_cases h1 : p ≤ u
      · by_cases h2 : u ≤ q
        · have HF : Hid (r = true) := HYs.out ⟨h1, h2⟩
          clear HNx HYs
          go_wp2
          go_ret
          have hrf := HF.out
          exact ⟨by first | rfl | (rw [hrf]; rfl), hG⟩
        · have HX : Hid (∀ j, j < k + 1 → ¬ ((rg l j).1 ≤ u ∧ u ≤ (rg l j).2)) := HNx.out (fun h => h2 h.2)
          have d2 : decide (u ≤ q) = false := by simpa using h2
          clear HNx HYs
          go_wp2
          exact ⟨⟨k + 1, by go_num, by omega, HX, hG⟩, by simp [intOf]; omega⟩
      · have HX : Hid (∀ j, j < k + 1 → ¬ ((rg l j).1 ≤ u ∧ u ≤ (rg l j).2)) := HNx.out (fun h => h1 h.1)
        have d1 : decide (p ≤ u) = false := by simpa using h1
        clear HNx HYs
        go_wp2
        exact ⟨⟨k + 1, by go_num, by omega, HX, hG⟩, by simp [intOf]; omega⟩
    · have hge : ¬ (k : Int) < (n : Int) := by omega
      have hrt : r = false := by
        rw [← HR.out, decide_eq_false_iff_not, hasU_iff]
        rintro ⟨j, hj, h1⟩
        exact hT.out j (by rw [HN.out] at hj; omega) h1
      have HF : Hid (r = false) := hrt
      clear hT hrt
      go_wp2
      go_ret
      have hrf := HF.out
      exact ⟨by first | rfl | (rw [hrf]; rfl), hG⟩
theorem in_any (v : Value) (l : List (Int × Int)) (u : Int) (w : World) (h : Rs w v l) (hn : l.length ≤ 1152921504606846976) : Calls Tryd.prog 75 #[v, .int .i64 u] w fun e w' => e = .returned (.bool (decide (hasU l u))) ∧ Grown w w' := by
  obtain ⟨A, c, rfl, _, h⟩ := h
  exact in_walk A c l u w h hn
set_option maxHeartbeats 2000000 in
theorem rstands_many (a b : Option Addr) (n c m d : Nat) (w : World) (h : n ≠ m) : Calls Tryd.prog 62 #[.slice a n c, .slice b m d] w fun e w' => e = .returned (.bool false) ∧ Grown w w' := by
  have h' : ((n : Int) != (m : Int)) = true := by simp; omega
  go_enter Tryd.func62, Tryd.ntmps62
  go_wp2
  go_ret
  exact ⟨rfl, Grown.refl _⟩
set_option maxHeartbeats 2000000 in
theorem rstands_nil (a b : Option Addr) (c d : Nat) (w : World) : Calls Tryd.prog 62 #[.slice a 0 c, .slice b 0 d] w fun e w' => e = .returned (.bool true) ∧ Grown w w' := by
  go_enter Tryd.func62, Tryd.ntmps62
  go_wp2
  go_loopw [5] (fun vi wr => vi = .int .i64 0 ∧ wr = w) (fun _ _ => 0)
  case atStart => exact ⟨rfl, rfl⟩
  case round =>
    obtain ⟨rfl, rfl⟩ := hrel
    go_wp2
    go_ret
    exact ⟨rfl, Grown.refl _⟩
set_option maxHeartbeats 4000000 in
theorem rstands_walk (g o c g2 o2 d : Nat) (ls : List (List (Int × Int))) (us : List Int) (w : World) (h : SRd w g o ls) (h2 : IRd w g2 o2 us) (hn1 : ls.length ≤ 1000000) (hv : ls.all okS = true) (hl : ls.length = us.length) :
    Calls Tryd.prog 62 #[.slice (some ⟨g2, o2, none⟩) us.length d, .slice (some ⟨g, o, none⟩) ls.length c] w fun e w' => e = .returned (.bool ((ls.zip us).all fun x => hasB x.1 x.2)) ∧ Grown w w' := by
  obtain ⟨n, hnn⟩ : ∃ n, ls.length = n := ⟨_, rfl⟩
  have HN : Hid (ls.length = n) := hnn
  have HN2 : Hid (us.length = n) := by rw [← hl]; exact hnn
  have HZ : Hid ((ls.zip us).length = n) := by show _ = _; rw [List.length_zip, HN.out, HN2.out, Nat.min_self]
  rw [← hl, hnn]
  rw [hnn] at hn1
  obtain ⟨r, hr⟩ : ∃ r : Bool, ((ls.zip us).all fun x => hasB x.1 x.2) = r := ⟨_, rfl⟩
  have HR : Hid (((ls.zip us).all fun x => hasB x.1 x.2) = r) := hr
  rw [hr]
  have HV : Hid (ls.all okS = true) := hv
  have hm := mixed
  clear hr hnn hl hv
  have HH : Hid (SRd w g o ls) := h
  have HI : Hid (IRd w g2 o2 us) := h2
  clear h h2
  go_enter Tryd.func62, Tryd.ntmps62
  go_wp2
  go_loopw [5] (fun vi wr => ∃ k : Nat, vi = .int .i64 k ∧ k ≤ n ∧ Hid (((ls.zip us).take k).all (fun x => hasB x.1 x.2) = true) ∧ Grown w wr) (fun vi _ => n - (intOf vi).toNat)
  case atStart => exact ⟨0, rfl, by omega, by simp [Hid], Grown.refl _⟩
  case round =>
    obtain ⟨k, rfl, hk, hG, hB⟩ := hrel
    have hpos : (0 : Int) ≤ (k : Int) := by omega
    by_cases hlt : k < n
    · have hlt' : (k : Int) < (n : Int) := by omega
      have hkl : k < ls.length := by rw [HN.out]; exact hlt
      have hku : k < us.length := by rw [HN2.out]; exact hlt
      have hkz : k < (ls.zip us).length := by rw [HZ.out]; exact hlt
      obtain ⟨sv, hc, hs⟩ := HH.out k hkl
      have hi := hB.cellv (HI.out k hku)
      have hok := List.all_eq_true.1 HV.out ls[k] (List.getElem_mem hkl)
      have hval : validB ls[k] = true := by simp only [okS, Bool.and_eq_true] at hok; exact hok.1
      have hlen : ls[k].length ≤ 1152921504606846976 := by have := ((validB_iff _).1 hval).1; omega
      have HC : Hid (∀ m os, Calls Tryd.prog 75 #[sv, .int .i64 us[k]] (Go.Sort.grow (wr.drewN m) os) fun e w' => e = .returned (.bool (hasB ls[k] us[k])) ∧ Grown (Go.Sort.grow (wr.drewN m) os) w') := fun m os => by
        have := in_any sv ls[k] us[k] _ (hs.grown (hB.quiet m os)) hlen
        have e : hasB ls[k] us[k] = decide (hasU ls[k] us[k]) := by simp [hasB, hval]
        rw [e]; exact this
      obtain ⟨sa, sn, sc, rfl⟩ := hs.sl
      have f1 : ∀ m os, (Go.Sort.grow (wr.drewN m) os).cell? ⟨g, o + k, none⟩ = some (.slice sa sn sc) := fun m os => (hB.quiet m os).cellv hc
      have f2 : ∀ m os, (Go.Sort.grow (wr.drewN m) os).cell? ⟨g2, o2 + k, none⟩ = some (.int .i64 us[k]) := fun m os => ((Grown.refl _).quiet m os).cellv hi
      have hz : (ls.zip us)[k] = (ls[k], us[k]) := List.getElem_zip
      by_cases hv : hasB ls[k] us[k] = true
      · have HS : Hid (((ls.zip us).take (k + 1)).all (fun x => hasB x.1 x.2) = true) := by show _ = true; rw [all_succ _ hkz, hG.out, hz]; exact hv
        rw [hv] at HC
        generalize us[k] = u at HC f2
        clear hs hv hG hz hc hi hok hval hlen
        go_wp2
        refine wp_region_quiet_grown hm (by kernel_rfl) ?_
        repeat (go_big_quiet_step ((go_at_call 75; exact grown_of (HC.out _ _))))
        refine wpQuiet_nil ?_
        intro _ hw'
        obtain ⟨⟨nq, osq⟩, hw''⟩ := hw'
        subst hw''
        go_wp2
        exact ⟨⟨k + 1, by go_num, by omega, HS, hB.quiet _ _⟩, by simp [intOf]; omega⟩
      · have hv' : hasB ls[k] us[k] = false := by simpa using hv
        have HF : Hid (r = false) := by rw [← HR.out]; exact all_stop _ hkz (by rw [hz]; exact hv')
        rw [hv'] at HC
        generalize us[k] = u at HC f2
        clear hs hv hv' hG hz hc hi hok hval hlen
        go_wp2
        refine wp_region_quiet_grown hm (by kernel_rfl) ?_
        repeat (go_big_quiet_step ((go_at_call 75; exact grown_of (HC.out _ _))))
        refine wpQuiet_nil ?_
        intro _ hw'
        obtain ⟨⟨nq, osq⟩, hw''⟩ := hw'
        subst hw''
        go_wp2
        go_ret
        have hrf := HF.out
        exact ⟨by first | rfl | (rw [hrf]; rfl), hB.quiet _ _⟩
    · have hge : ¬ (k : Int) < (n : Int) := by omega
      have hrt : r = true := by
        rw [← HR.out]
        have := hG.out
        rwa [List.take_of_length_le (by rw [HZ.out]; omega)] at this
      have HF : Hid (r = true) := hrt
      clear hG hrt
      go_wp2
      go_ret
      have hrf := HF.out
      exact ⟨by first | rfl | (rw [hrf]; rfl), hB⟩
theorem rstands_any (v uv : Value) (ls : List (List (Int × Int))) (us : List Int) (w : World) (h : SR w v ls) (h2 : IR w uv us) (hn : ls.length ≤ 1000000) (hv : ls.all okS = true) : Calls Tryd.prog 62 #[uv, v] w fun e w' => e = .returned (.bool (stB ls us)) ∧ Grown w w' := by
  obtain ⟨a, cap, rfl, _, h⟩ := h
  obtain ⟨b, cap2, rfl, _, h2⟩ := h2
  unfold stB
  by_cases hl : ls.length = us.length
  · rw [decide_eq_true hl, Bool.true_and]
    rcases h with rfl | ⟨g, o, rfl, h⟩
    · obtain rfl : us = [] := List.eq_nil_of_length_eq_zero (by simpa using hl.symm)
      exact rstands_nil b a cap2 cap w
    · rcases h2 with rfl | ⟨g2, o2, rfl, h2⟩
      · obtain rfl : ls = [] := List.eq_nil_of_length_eq_zero (by simpa using hl)
        exact rstands_nil b _ cap2 cap w
      · exact rstands_walk g o cap g2 o2 cap2 ls us w h h2 hn hv hl
  · rw [decide_eq_false hl, Bool.false_and]
    exact rstands_many b a _ cap2 _ cap w (fun e => hl e.symm)
/-- numbers that lie in a block from base on -/
def FarI (w : World) (base : Nat) (v : Value) (l : List Int) : Prop := ∃ a c, v = .slice a l.length c ∧ l.length ≤ c ∧ (l = [] ∨ ∃ g o, a = some ⟨g, o, none⟩ ∧ base ≤ g ∧ IRd w g o l)
theorem FarI.ir {w : World} {base : Nat} {v : Value} {l : List Int} (h : FarI w base v l) : IR w v l := by
  obtain ⟨a, c, rfl, hc, h⟩ := h
  refine ⟨a, c, rfl, hc, ?_⟩
  rcases h with h | ⟨g, o, h1, _, h3⟩
  · exact .inl h
  · exact .inr ⟨g, o, h1, h3⟩
theorem FarI.le {w : World} {base base' : Nat} {v : Value} {l : List Int} (h : FarI w base v l) (hb : base' ≤ base) : FarI w base' v l := by
  obtain ⟨a, c, rfl, hc, h⟩ := h
  refine ⟨a, c, rfl, hc, ?_⟩
  rcases h with h | ⟨g, o, h1, h2, h3⟩
  · exact .inl h
  · exact .inr ⟨g, o, h1, Nat.le_trans hb h2, h3⟩
theorem FarI.below {w w' : World} {base n : Nat} {v : Value} {l : List Int} (h : FarI w base v l) (hb : Below n w w') (hn : w.heap.size ≤ n) : FarI w' base v l := by
  obtain ⟨a, c, rfl, hc, h⟩ := h
  refine ⟨a, c, rfl, hc, ?_⟩
  rcases h with h | ⟨g, o, h1, h2, h3⟩
  · exact .inl h
  · exact .inr ⟨g, o, h1, h2, h3.below hb hn⟩
theorem OwnI.far {w : World} {base : Nat} {v : Value} {l : List Int} (h : OwnI w base v l) : FarI w base v l := by
  rcases h.2 with ⟨rfl, h0⟩ | ⟨g, cap, cur, rfl, hb, _, hc, _⟩
  · have : l = [] := List.eq_nil_of_length_eq_zero h0
    subst this
    exact ⟨none, 0, rfl, Nat.le_refl _, .inl rfl⟩
  · refine ⟨_, cap, rfl, hc, .inr ⟨g, 0, rfl, hb, fun j hj => ?_⟩⟩
    have := World.ownsRow.cells h rfl j (.int .i64 l[j]) (by simp [ints, hj])
    rw [add_zero_at] at this
    rw [Nat.zero_add]
    exact this
theorem FarI.drop {w : World} {a : Option Addr} {n c cn base : Nat} {l : List Int} (h : FarI w base (.slice a n c) l) (hl : l.length = n) (hcn : cn ≤ n) : FarI w base (.slice (a.map fun x => x.add cn) (n - cn) (c - cn)) (l.drop cn) := by
  obtain ⟨a', c', e, hc, h⟩ := h
  injection e with e1 e2 e3
  subst e1 e3
  refine ⟨_, c - cn, by rw [List.length_drop, hl], by rw [List.length_drop]; omega, ?_⟩
  rcases h with rfl | ⟨g, o, rfl, hb, h⟩
  · exact .inl (by simp)
  · refine .inr ⟨g, o + cn, ?_, hb, fun j hj => ?_⟩
    · simp only [Option.map_some, Option.some.injEq]
      unfold Addr.add
      split <;> simp_all
    · rw [List.length_drop] at hj
      have := h (cn + j) (by omega)
      rw [List.getElem_drop, Nat.add_assoc]
      exact this
theorem FarI.take {w : World} {a : Option Addr} {n c cn base : Nat} {l : List Int} (h : FarI w base (.slice a n c) l) (hl : l.length = n) (hcn : cn ≤ n) : FarI w base (.slice a cn cn) (l.take cn) := by
  obtain ⟨a', c', e, hc, h⟩ := h
  injection e with e1 e2 e3
  subst e1 e3
  have ht : (l.take cn).length = cn := by rw [List.length_take]; omega
  refine ⟨_, cn, by rw [ht], by omega, ?_⟩
  rcases h with rfl | ⟨g, o, rfl, hb, h⟩
  · exact .inl (by simp)
  · refine .inr ⟨g, o, rfl, hb, fun j hj => ?_⟩
    rw [List.getElem_take]
    exact h j (by omega)
/-- how a piece is written: by its kind -/
def PcW (W : World) (ka ua : Option Addr) (kn un : Nat) (tv : Value) (p : Pc) (q : Int) : Prop :=
  (p.k = 1 ∧ p.u = q) ∨
  (p.k = 2 ∧ ∃ j g o : Nat, p.y = j ∧ j < un ∧ ua = some ⟨g, o, none⟩ ∧ W.cell? ⟨g, o + j, none⟩ = some (.int .i64 q)) ∨
  (p.k = 3 ∧ ∃ (j g o kg ko : Nat) (x pl : Int) (b1 b2 : Bool) (sv : Value), p.y = j ∧ j < un ∧ ua = some ⟨g, o, none⟩ ∧ W.cell? ⟨g, o + j, none⟩ = some (.int .i64 x) ∧ j < kn ∧ ka = some ⟨kg, ko, none⟩ ∧ W.cell? ⟨kg, ko + j, none⟩ = some sv ∧ IsSl sv ∧
    (∀ W', Grown W W' → Calls Tryd.prog 76 #[sv, .int .i64 x] W' fun e w' => e = .returned (.tuple #[.int .i64 pl, .bool b1]) ∧ Grown W' w') ∧
    (∀ W', Grown W W' → Calls Tryd.prog 77 #[tv, .int .i64 pl] W' fun e w' => e = .returned (.tuple #[.int .i64 q, .bool b2]) ∧ Grown W' w'))
theorem nthV_some (x : Option Int) : ∃ b, nthV x = .tuple #[.int .i64 (x.getD 0), .bool b] := by
  cases x with
  | none => exact ⟨false, rfl⟩
  | some z => exact ⟨true, rfl⟩
theorem pcW_of (p : Pc) (tv : Value) (ka ua : Option Addr) (kn un kc uc : Nat) (key : List (List (Int × Int))) (us : List Int) (W : World) (hk : SR W (.slice ka kn kc) key) (hu : IR W (.slice ua un uc) us) (ht : Rs W tv p.tl) (hp : pcE key p = 0) (hl : key.length = us.length) : PcW W ka ua kn un tv p (wrt key us p) := by
  obtain ⟨ka', kc', e, _, hk⟩ := hk
  cases e
  obtain ⟨ua', uc', e, _, hu⟩ := hu
  cases e
  rcases pc_ok hp with h1 | h1 | h1
  · refine .inl ⟨h1.1, ?_⟩
    unfold wrt
    rw [if_neg (by omega), if_neg (by omega)]
  · obtain ⟨h1, h2, h3, h4, h5⟩ := h1
    obtain ⟨j, hj⟩ : ∃ j : Nat, p.y = (j : Int) := ⟨p.y.toNat, by omega⟩
    obtain ⟨g, o, rfl, hu2⟩ := hu.resolve_left (fun e => by rw [e] at hl; simp only [List.length_nil] at hl; omega)
    have hju : j < us.length := by omega
    refine .inr (.inl ⟨h1, j, g, o, hj, hju, rfl, ?_⟩)
    rw [hu2 j hju]
    unfold wrt
    rw [if_neg (by omega), if_pos h1, hj]
    simp [unitAt, hju]
  · obtain ⟨h1, h2, h3, h4, h5⟩ := h1
    obtain ⟨j, hj⟩ : ∃ j : Nat, p.y = (j : Int) := ⟨p.y.toNat, by omega⟩
    obtain ⟨g, o, rfl, hu2⟩ := hu.resolve_left (fun e => by rw [e] at hl; simp only [List.length_nil] at hl; omega)
    obtain ⟨kg, ko, rfl, hk2⟩ := hk.resolve_left (fun e => by rw [e] at h4; simp only [List.length_nil] at h4; omega)
    have hju : j < us.length := by omega
    have hjk : j < key.length := by omega
    obtain ⟨sv, hck, hs⟩ := hk2 j hjk
    have e1 : keyAt key (j : Int) = key[j] := by simp [keyAt, hjk]
    have e2 : unitAt us (j : Int) = us[j] := by simp [unitAt, hju]
    have hw : wrt key us p = partU key[j] p.tl us[j] := by
      unfold wrt
      rw [if_pos h1, hj, e1, e2]
    obtain ⟨b2, hb2⟩ := nthV_some (nthU p.tl (if hasB key[j] us[j] then placeU key[j] us[j] else 0))
    refine .inr (.inr ⟨h1, j, g, o, kg, ko, us[j], (if hasB key[j] us[j] then placeU key[j] us[j] else 0), hasB key[j] us[j], b2, sv, hj, hju, rfl, hu2 j hju, hjk, rfl, hck, hs.sl, fun W' hW => ?_, fun W' hW => ?_⟩)
    · exact rplace_any sv key[j] us[j] W' (hs.grown hW)
    · have := rnth_any tv p.tl (if hasB key[j] us[j] then placeU key[j] us[j] else 0) W' (ht.grown hW)
      rw [hb2] at this
      rw [hw]
      exact this
set_option maxHeartbeats 8000000 in
theorem rlaid_walk (r : Rl) (av kv pv rv uv : Value) (us : List Int) (w : World) (h : RR w av kv pv rv r) (hu : IR w uv us) (hb : layB r us = true) :
    Calls Tryd.prog 63 #[.agg #[.bool r.bg, av, kv, pv, .bool r.en, rv, .int .i64 r.cu], uv] w fun e w' => ∃ v1 v2, e = .returned (.tuple #[v1, v2]) ∧ FarI w' w.heap.size v1 ((outs r us).take r.cu.toNat) ∧ FarI w' w.heap.size v2 ((outs r us).drop r.cu.toNat) ∧ Below w.heap.size w w' := by
  simp only [layB, Bool.and_eq_true, decide_eq_true_eq] at hb
  have hok := chk_ok hb.1
  have hsl := st_len hb.2
  obtain ⟨aa, an, ac, rfl⟩ := h.a.sl
  obtain ⟨ka, kn, kc, rfl⟩ := h.k.sl
  obtain ⟨pa, pn, pc, rfl⟩ := h.p.sl
  obtain ⟨ua, un, uc, rfl⟩ := hu.sl
  obtain ⟨ra, rc, rfl, _, _⟩ := h.r
  have HW : Hid (∀ W, Below w.heap.size w W → ∀ p ∈ r.res, ∀ tv, Rs W tv p.tl → PcW W ka ua kn un tv p (wrt r.key us p)) := fun W hW p hp tv ht =>
    pcW_of p tv ka ua kn un kc uc r.key us W (h.k.below hW (Nat.le_refl _)) (hu.below hW (Nat.le_refl _)) ht (hok.pc p hp) hsl
  have HR : Hid (∀ W, Below w.heap.size w W → PR W (.slice ra r.res.length rc) r.res) := fun W hW => h.r.below hW (Nat.le_refl _)
  obtain ⟨rn, hrn⟩ : ∃ rn, r.res.length = rn := ⟨_, rfl⟩
  rw [hrn] at HR ⊢
  have HN : Hid (r.res.length = rn) := hrn
  have hr16 : rn ≤ 16 := by rw [← hrn]; exact hok.r16
  obtain ⟨cn, hcn⟩ : ∃ cn : Nat, r.cu = (cn : Int) := ⟨r.cu.toNat, by have := hok.c0; omega⟩
  have hcr : cn ≤ rn := by have := hok.c1; omega
  rw [hcn]
  have HO : Hid (∀ k (hk : k < r.res.length), (outs r us).take (k + 1) = (outs r us).take k ++ [wrt r.key us r.res[k]]) := fun k hk => outs_succ hk
  have HL : Hid ((outs r us).length = rn) := by show _ = _; rw [← hrn]; simp [outs]
  rw [show ((cn : Int)).toNat = cn by omega]
  generalize outs r us = O at HO HL
  generalize hwk : wrt r.key us = wk at HO HW
  obtain ⟨bg, en, cu, ante, key, post, res⟩ := r
  simp only at HR HW HO HN ⊢
  clear h hu hok hb hrn hcn hwk hsl
  have hm := mixed
  go_enter Tryd.func63, Tryd.ntmps63
  go_wp2
  obtain ⟨w2, hw2⟩ : ∃ w2 : World, w2 = w.alloc (rcells bg (.slice aa an ac) (.slice ka kn kc) (.slice pa pn pc) en (.slice ra rn rc) (cn : Int)) := ⟨_, rfl⟩
  have d2 : w2.cell? ⟨w.heap.size, 2, none⟩ = some (.slice ka kn kc) := by rw [hw2]; simp [rcells]
  have d5 : w2.cell? ⟨w.heap.size, 5, none⟩ = some (.slice ra rn rc) := by rw [hw2]; simp [rcells]
  have d6 : w2.cell? ⟨w.heap.size, 6, none⟩ = some (.int .i64 (cn : Int)) := by rw [hw2]; simp [rcells]
  have HG2 : Hid (Below w.heap.size w w2) := by show Below _ _ _; rw [hw2]; exact ((Grown.refl w).alloc _).below
  have HZ : Hid (w2.heap.size = w.heap.size + 1) := by show _ = _; rw [hw2]; simp
  rw [show w.alloc (.cells #[.bool bg, .slice aa an ac, .slice ka kn kc, .slice pa pn pc, .bool en, .slice ra rn rc, .int .i64 (cn : Int)] 25) = w2 from hw2.symm]
  have HB0 : Hid (OwnI (w2.alloc (.cells #[] 3)) w2.heap.size (.slice (some ⟨w.heap.size + 1, 0, none⟩) 0 0) [] ∧ Below w2.heap.size w2 (w2.alloc (.cells #[] 3))) := by
    refine ⟨?_, ((Grown.refl w2).alloc _).below⟩
    exact NewI.own ⟨w.heap.size + 1, rfl, by rw [HZ.out]; exact Nat.le_refl _, by rw [← HZ.out]; exact Array.getElem?_push_size⟩ (Nat.zero_le _)
  clear hw2
  go_loopw [6, 7] (fun sa vi wr => ∃ (va : Value) (kk : Nat), va = sa ∧ vi = .int .i64 kk ∧ kk ≤ rn ∧ Hid (OwnI wr w2.heap.size va (O.take kk) ∧ Below w2.heap.size w2 wr)) (fun _ vi _ => rn - (intOf vi).toNat)
  case atStart => exact ⟨_, 0, rfl, rfl, Nat.zero_le _, HB0.out⟩
  case round =>
    obtain ⟨va, k, rfl, rfl, hk, HG⟩ := hrel
    have hkI : (0 : Int) ≤ (k : Int) := by omega
    have hkI2 : (k : Int) ≤ 16 := by omega
    have e2 := cell_below d2 HG.out.2 (Nat.le_refl _)
    have e5 := cell_below d5 HG.out.2 (Nat.le_refl _)
    have e6 := cell_below d6 HG.out.2 (Nat.le_refl _)
    by_cases hlt : k < rn
    · have hlt' : (k : Int) < (rn : Int) := by omega
      have hkl : k < res.length := by rw [HN.out]; exact hlt
      have HBw : Below w.heap.size w wr := HG2.out.trans (HG.out.2.mono HG2.out.size)
      obtain ⟨ra', rc', hre, _, hP⟩ := HR.out wr HBw
      obtain ⟨g, o, hra, hP2⟩ := hP.resolve_left (fun e => by rw [e] at hkl; simp at hkl)
      cases hre
      subst hra
      obtain ⟨tv, p0, p1, p2, p3, hRs⟩ := hP2 k hkl
      have hPW := HW.out wr HBw res[k] (List.getElem_mem hkl) tv hRs
      have HOO : Hid (O.take (k + 1) = O.take k ++ [wk res[k]]) := HO.out k hkl
      obtain ⟨ta, tn, tc, rfl⟩ := hRs.sl
      generalize wk res[k] = q at hPW HOO
      unfold PcW at hPW
      generalize res[k].k = xk at hPW p0
      generalize res[k].u = xu at hPW p1
      generalize res[k].y = xy at hPW p2
      have hOl : (O.take k).length + 1 ≤ 8796093022208 := by rw [List.length_take]; omega
      clear hRs hP hP2 HBw
      rcases hPW with ⟨rfl, rfl⟩ | ⟨rfl, j, gu, ou, rfl, hju, rfl, hcu⟩ | ⟨rfl, j, gu, ou, kg, ko, x, pl, b1, b2, sv, rfl, hju, rfl, hcu, hjk, rfl, hck, hsv, hc1, hc2⟩
      · as_aux_lemma =>
          have HP2 : Hid (∀ oa ob, OwnI ((wr.alloc oa).alloc ob) w2.heap.size va (O.take k) ∧ w2.heap.size ≤ ((wr.alloc oa).alloc ob).heap.size ∧ Below w2.heap.size w2 ((wr.alloc oa).alloc ob)) := fun oa ob => by
            have hb5 : Below wr.heap.size wr ((wr.alloc oa).alloc ob) := (((Grown.refl _).alloc oa).alloc ob).below
            exact ⟨HG.out.1.below hb5 (Nat.le_refl _), Nat.le_trans HG.out.2.size hb5.size, HG.out.2.trans (hb5.mono HG.out.2.size)⟩
          go_wp2_with (at_builtin; go_must (refine push_I rfl _ _ 39 rfl Tryd.underlying39 w2.heap.size _ (O.take k) rfl (HP2.out _ _).1 _ _ xu rfl (by simp) hOl (HP2.out _ _).2.1 ?_; intro v3 w3 hO3 hB3))
          go_roundw
          case rel =>
            refine ⟨_, k + 1, rfl, by simp, hlt, ?_, (HP2.out _ _).2.2.trans hB3⟩
            rw [HOO.out]
            exact hO3
          case measure => simp [intOf]; omega
      · as_aux_lemma =>
          have HP2 : Hid (∀ oa ob, OwnI ((wr.alloc oa).alloc ob) w2.heap.size va (O.take k) ∧ w2.heap.size ≤ ((wr.alloc oa).alloc ob).heap.size ∧ Below w2.heap.size w2 ((wr.alloc oa).alloc ob)) := fun oa ob => by
            have hb5 : Below wr.heap.size wr ((wr.alloc oa).alloc ob) := (((Grown.refl _).alloc oa).alloc ob).below
            exact ⟨HG.out.1.below hb5 (Nat.le_refl _), Nat.le_trans HG.out.2.size hb5.size, HG.out.2.trans (hb5.mono HG.out.2.size)⟩
          have hj1 : (j : Int) < (un : Int) := by omega
          have hj0 : (0 : Int) ≤ (j : Int) := by omega
          have du := fun o => cell_up hcu o
          go_wp2_with (at_builtin; go_must (refine push_I rfl _ _ 39 rfl Tryd.underlying39 w2.heap.size _ (O.take k) rfl (HP2.out _ _).1 _ _ q rfl (by simp) hOl (HP2.out _ _).2.1 ?_; intro v3 w3 hO3 hB3))
          go_roundw
          case rel =>
            refine ⟨_, k + 1, rfl, by simp, hlt, ?_, (HP2.out _ _).2.2.trans hB3⟩
            rw [HOO.out]
            exact hO3
          case measure => simp [intOf]; omega
      · as_aux_lemma =>
          have hj1 : (j : Int) < (un : Int) := by omega
          have hj2 : (j : Int) < (kn : Int) := by omega
          have hj0 : (0 : Int) ≤ (j : Int) := by omega
          have du := fun o => cell_up hcu o
          have dk := fun o => cell_up hck o
          have e2' := fun o => cell_up e2 o
          obtain ⟨sa, sn, sc, rfl⟩ := hsv
          have HC1 : Hid (∀ W', Grown wr W' → Calls Tryd.prog 76 #[.slice sa sn sc, .int .i64 x] W' fun e w' => e = .returned (.tuple #[.int .i64 pl, .bool b1]) ∧ Grown W' w') := hc1
          have HC2 : Hid (∀ W', Grown wr W' → Calls Tryd.prog 77 #[.slice ta tn tc, .int .i64 pl] W' fun e w' => e = .returned (.tuple #[.int .i64 q, .bool b2]) ∧ Grown W' w') := hc2
          clear hc1 hc2
          go_wp2_with fail
          refine (HC1.out _ ((Grown.refl _).alloc _)).mono ?_
          rintro e w4 ⟨rfl, hb4⟩
          have f3 := hb4.cellv (a := ⟨wr.heap.size, 3, none⟩) (v := .slice ta tn tc) (by simp)
          have HB4 := ((Grown.refl wr).alloc (.cells #[.int .i64 3, .int .i64 xu, .int .i64 (j : Int), .slice ta tn tc] 53)).trans hb4
          clear hb4
          go_wp2_with fail
          refine (HC2.out _ HB4).mono ?_
          rintro e w5 ⟨rfl, hb5⟩
          have HB5 := HB4.trans hb5
          have HP2 : Hid (∀ ob, OwnI (w5.alloc ob) w2.heap.size va (O.take k) ∧ w2.heap.size ≤ (w5.alloc ob).heap.size ∧ Below w2.heap.size w2 (w5.alloc ob)) := fun ob => by
            have hb6 : Below wr.heap.size wr (w5.alloc ob) := (HB5.alloc ob).below
            exact ⟨HG.out.1.below hb6 (Nat.le_refl _), Nat.le_trans HG.out.2.size hb6.size, HG.out.2.trans (hb6.mono HG.out.2.size)⟩
          clear hb5 HB4 HB5
          go_wp2_with (at_builtin; go_must (refine push_I rfl _ _ 39 rfl Tryd.underlying39 w2.heap.size _ (O.take k) rfl (HP2.out _).1 _ _ q rfl (by simp) hOl (HP2.out _).2.1 ?_; intro v3 w3 hO3 hB3))
          go_roundw
          case rel =>
            refine ⟨_, k + 1, rfl, by simp, hlt, ?_, (HP2.out _).2.2.trans hB3⟩
            rw [HOO.out]
            exact hO3
          case measure => simp [intOf]; omega
    · have hge : ¬ (k : Int) < (rn : Int) := by omega
      obtain rfl : k = rn := by omega
      have HOw : Hid (OwnI wr w2.heap.size va O) := by have := HG.out.1; rwa [List.take_of_length_le (by rw [HL.out]; omega)] at this
      have HBw : Hid (Below w2.heap.size w2 wr) := HG.out.2
      have HF : Hid (FarI wr w2.heap.size va O) := OwnI.far HOw.out
      obtain ⟨sa, sc, rfl, hsc0, _⟩ := HF.out
      rw [HL.out] at HOw HF hsc0 ⊢
      have hOl : O.length = k := HL.out
      have HWs : Hid (w.heap.size ≤ w2.heap.size) := HG2.out.size
      have HBq : Hid (∀ m os, Below w.heap.size w (Go.Sort.grow (wr.drewN m) os)) := fun m os => by
        have := ((Grown.refl wr).quiet m os).below
        exact HG2.out.trans ((HBw.out.trans (this.mono HBw.out.size)).mono HG2.out.size)
      have HFq : Hid (∀ m os, FarI (Go.Sort.grow (wr.drewN m) os) w.heap.size (.slice sa k sc) O) := fun m os => (HF.out.le HWs.out).below ((Grown.refl wr).quiet m os).below (Nat.le_refl _)
      have f6 : ∀ m os, (Go.Sort.grow (wr.drewN m) os).cell? ⟨w.heap.size, 6, none⟩ = some (.int .i64 (cn : Int)) := fun m os => ((Grown.refl _).quiet m os).cellv e6
      have hckI : (cn : Int) ≤ (k : Int) := by omega
      have hcnI : (0 : Int) ≤ (cn : Int) := by omega
      have hscI : (k : Int) ≤ (sc : Int) := by omega
      have hscI2 : (cn : Int) ≤ (sc : Int) := by omega
      clear HG HW HO HR HOw HB0
      by_cases hsc : cn = sc
      · subst hsc
        have HNil : Hid (∀ (m : Nat) (os : Array Obj), FarI (Go.Sort.grow (wr.drewN m) os) w.heap.size (.slice sa 0 0) (O.drop cn)) := fun m os => by
          rw [List.drop_eq_nil_of_le (by omega)]
          exact ⟨sa, 0, rfl, Nat.le_refl _, .inl rfl⟩
        go_wp2
        refine wp_region_quiet_grown hm (by kernel_rfl) ?_
        repeat (go_big_quiet_step (fail))
        refine wpQuiet_nil ?_
        intro _ hw'
        obtain ⟨⟨nq, osq⟩, hw''⟩ := hw'
        subst hw''
        go_wp2
        go_ret2
        exact ⟨_, _, rfl, (HFq.out _ _).take hOl hcr, HNil.out _ _, HBq.out _ _⟩
      · have hscE : ((cn : Int) == (sc : Int)) = false := by simp; omega
        go_wp2
        refine wp_region_quiet_grown hm (by kernel_rfl) ?_
        repeat (go_big_quiet_step (fail))
        refine wpQuiet_nil ?_
        intro _ hw'
        obtain ⟨⟨nq, osq⟩, hw''⟩ := hw'
        subst hw''
        go_wp2
        go_ret2
        exact ⟨_, _, rfl, (HFq.out _ _).take hOl hcr, (HFq.out _ _).drop hOl hcr, HBq.out _ _⟩
set_option maxHeartbeats 4000000 in
theorem rlays_no (r : Rl) (av kv pv rv uv : Value) (us : List Int) (w : World) (h : RR w av kv pv rv r) (hu : IR w uv us) (hb : layB r us = false) :
    Calls Tryd.prog 38 #[.agg #[.bool r.bg, av, kv, pv, .bool r.en, rv, .int .i64 r.cu], uv] w fun e w' => e = .returned (.tuple #[.slice none 0 0, .slice none 0 0]) ∧ Grown w w' := by
  have HC : Hid (∀ W, Grown w W → Calls Tryd.prog 15 #[.agg #[.bool r.bg, av, kv, pv, .bool r.en, rv, .int .i64 r.cu]] W fun e w' => e = .returned (.int .i64 (chk r)) ∧ Grown W w') := fun W hW => rcheck_any r av kv pv rv W (h.grown hW)
  have HS : Hid (r.key.length ≤ 1000000 → r.key.all okS = true → ∀ W, Grown w W → Calls Tryd.prog 62 #[uv, kv] W fun e w' => e = .returned (.bool (stB r.key us)) ∧ Grown W w') := fun hn ho W hW => rstands_any kv uv r.key us W (h.k.grown hW) (hu.grown hW) hn ho
  obtain ⟨aa, an, ac, rfl⟩ := h.a.sl
  obtain ⟨ka, kn, kc, rfl⟩ := h.k.sl
  obtain ⟨pa, pn, pc, rfl⟩ := h.p.sl
  obtain ⟨ra, rn, rc, rfl⟩ := h.r.sl
  clear h hu
  by_cases h1 : chk r = 0
  · have hst : stB r.key us = false := by simpa [layB, h1] using hb
    have hk8 := (chk_ok h1).k8
    have HS2 := HS.out (by omega) (chk_ok h1).kS
    rw [hst] at HS2
    rw [h1] at HC
    obtain ⟨bg, en, cu, ante, key, post, res⟩ := r
    simp only at HC HS2 ⊢
    have HSS : Hid (∀ W, Grown w W → Calls Tryd.prog 62 #[uv, .slice ka kn kc] W fun e w' => e = .returned (.bool false) ∧ Grown W w') := HS2
    clear HS HS2 hst h1 hb hk8
    go_enter Tryd.func38, Tryd.ntmps38
    go_wp2_with fail
    refine (HC.out _ ((Grown.refl _).alloc _)).mono ?_
    rintro e w1 ⟨rfl, hb1⟩
    have c2 := hb1.cellv (a := ⟨w.heap.size, 2, none⟩) (v := .slice ka kn kc) (by simp)
    go_wp2_with fail
    refine (HSS.out _ (((Grown.refl _).alloc _).trans hb1)).mono ?_
    rintro e w2 ⟨rfl, hb2⟩
    go_wp2
    go_ret2
    exact ⟨rfl, (((Grown.refl _).alloc _).trans hb1).trans hb2⟩
  · have h1' : (chk r != 0) = true := by simpa using h1
    generalize chk r = q at HC h1'
    obtain ⟨bg, en, cu, ante, key, post, res⟩ := r
    simp only at HC ⊢
    clear HS h1 hb
    go_enter Tryd.func38, Tryd.ntmps38
    go_wp2_with fail
    refine (HC.out _ ((Grown.refl _).alloc _)).mono ?_
    rintro e w1 ⟨rfl, hb1⟩
    go_wp2
    go_ret2
    exact ⟨rfl, ((Grown.refl _).alloc _).trans hb1⟩
set_option maxHeartbeats 4000000 in
theorem rlays_walk (r : Rl) (av kv pv rv uv : Value) (us : List Int) (w : World) (h : RR w av kv pv rv r) (hu : IR w uv us) (hb : layB r us = true) :
    Calls Tryd.prog 38 #[.agg #[.bool r.bg, av, kv, pv, .bool r.en, rv, .int .i64 r.cu], uv] w fun e w' => ∃ v1 v2, e = .returned (.tuple #[v1, v2]) ∧ FarI w' w.heap.size v1 ((outs r us).take r.cu.toNat) ∧ FarI w' w.heap.size v2 ((outs r us).drop r.cu.toNat) ∧ Below w.heap.size w w' := by
  have hb0 := hb
  simp only [layB, Bool.and_eq_true, decide_eq_true_eq] at hb
  have hok := chk_ok hb.1
  have HC : Hid (∀ W, Grown w W → Calls Tryd.prog 15 #[.agg #[.bool r.bg, av, kv, pv, .bool r.en, rv, .int .i64 r.cu]] W fun e w' => e = .returned (.int .i64 0) ∧ Grown W w') := fun W hW => by have := rcheck_any r av kv pv rv W (h.grown hW); rwa [hb.1] at this
  have HS : Hid (∀ W, Grown w W → Calls Tryd.prog 62 #[uv, kv] W fun e w' => e = .returned (.bool true) ∧ Grown W w') := fun W hW => by have := rstands_any kv uv r.key us W (h.k.grown hW) (hu.grown hW) (by have := hok.k8; omega) hok.kS; rwa [hb.2] at this
  have HD : Hid (∀ W, Grown w W → Calls Tryd.prog 63 #[.agg #[.bool r.bg, av, kv, pv, .bool r.en, rv, .int .i64 r.cu], uv] W fun e w' => ∃ v1 v2, e = .returned (.tuple #[v1, v2]) ∧ FarI w' w.heap.size v1 ((outs r us).take r.cu.toNat) ∧ FarI w' w.heap.size v2 ((outs r us).drop r.cu.toNat) ∧ Below w.heap.size w w') := fun W hW => by
    refine (rlaid_walk r av kv pv rv uv us W (h.grown hW) (hu.grown hW) hb0).mono ?_
    rintro e w' ⟨v1, v2, rfl, h1, h2, h3⟩
    exact ⟨v1, v2, rfl, h1.le hW.below.size, h2.le hW.below.size, hW.below.trans (h3.mono hW.below.size)⟩
  obtain ⟨aa, an, ac, rfl⟩ := h.a.sl
  obtain ⟨ka, kn, kc, rfl⟩ := h.k.sl
  obtain ⟨pa, pn, pc, rfl⟩ := h.p.sl
  obtain ⟨ra, rn, rc, rfl⟩ := h.r.sl
  generalize (outs r us).take r.cu.toNat = O1 at HD ⊢
  generalize (outs r us).drop r.cu.toNat = O2 at HD ⊢
  obtain ⟨bg, en, cu, ante, key, post, res⟩ := r
  simp only at HC HS HD ⊢
  clear h hu hok hb hb0
  go_enter Tryd.func38, Tryd.ntmps38
  go_wp2_with fail
  refine (HC.out _ ((Grown.refl _).alloc _)).mono ?_
  rintro e w1 ⟨rfl, hb1⟩
  have hg1 := ((Grown.refl w).alloc (rcells bg (.slice aa an ac) (.slice ka kn kc) (.slice pa pn pc) en (.slice ra rn rc) cu)).trans hb1
  have c0 := hb1.cellv (a := ⟨w.heap.size, 0, none⟩) (v := .bool bg) (by simp)
  have c1 := hb1.cellv (a := ⟨w.heap.size, 1, none⟩) (v := .slice aa an ac) (by simp)
  have c2 := hb1.cellv (a := ⟨w.heap.size, 2, none⟩) (v := .slice ka kn kc) (by simp)
  have c3 := hb1.cellv (a := ⟨w.heap.size, 3, none⟩) (v := .slice pa pn pc) (by simp)
  have c4 := hb1.cellv (a := ⟨w.heap.size, 4, none⟩) (v := .bool en) (by simp)
  have c5 := hb1.cellv (a := ⟨w.heap.size, 5, none⟩) (v := .slice ra rn rc) (by simp)
  have c6 := hb1.cellv (a := ⟨w.heap.size, 6, none⟩) (v := .int .i64 cu) (by simp)
  clear hb1
  go_wp2_with fail
  refine (HS.out _ hg1).mono ?_
  rintro e w2 ⟨rfl, hb2⟩
  have d0 := hb2.cellv c0
  have d1 := hb2.cellv c1
  have d2 := hb2.cellv c2
  have d3 := hb2.cellv c3
  have d4 := hb2.cellv c4
  have d5 := hb2.cellv c5
  have d6 := hb2.cellv c6
  have hg2 := hg1.trans hb2
  clear c0 c1 c2 c3 c4 c5 c6 hg1 hb2 HC HS
  go_wp2_with fail
  refine (HD.out _ hg2).mono ?_
  rintro e w3 ⟨v1, v2, rfl, h1, h2, h3⟩
  have H1 : Hid (FarI w3 w.heap.size v1 O1) := h1
  have H2 : Hid (FarI w3 w.heap.size v2 O2) := h2
  have H3 : Hid (Below w.heap.size w w3) := h3
  obtain ⟨x1, n1, m1, rfl⟩ := h1.ir.sl
  obtain ⟨x2, n2, m2, rfl⟩ := h2.ir.sl
  clear h1 h2 h3
  go_wp2
  go_ret2
  exact ⟨_, _, rfl, H1.out, H2.out, H3.out⟩
/-- what the document's Lays tells -/
def RLaysO (w' : World) (base : Nat) (r : Rl) (us : List Int) (v1 v2 : Value) : Prop :=
  (layB r us = false ∧ v1 = .slice none 0 0 ∧ v2 = .slice none 0 0) ∨ (layB r us = true ∧ FarI w' base v1 ((outs r us).take r.cu.toNat) ∧ FarI w' base v2 ((outs r us).drop r.cu.toNat))
theorem rlays_any (r : Rl) (av kv pv rv uv : Value) (us : List Int) (w : World) (h : RR w av kv pv rv r) (hu : IR w uv us) :
    Calls Tryd.prog 38 #[.agg #[.bool r.bg, av, kv, pv, .bool r.en, rv, .int .i64 r.cu], uv] w fun e w' => ∃ v1 v2, e = .returned (.tuple #[v1, v2]) ∧ RLaysO w' w.heap.size r us v1 v2 ∧ Below w.heap.size w w' := by
  by_cases hb : layB r us = true
  · refine (rlays_walk r av kv pv rv uv us w h hu hb).mono ?_
    rintro e w' ⟨v1, v2, rfl, h1, h2, h4⟩
    exact ⟨v1, v2, rfl, .inr ⟨hb, h1, h2⟩, h4⟩
  · have hb' : layB r us = false := by simpa using hb
    refine (rlays_no r av kv pv rv uv us w h hu hb').mono ?_
    rintro e w' ⟨rfl, h1⟩
    exact ⟨_, _, rfl, .inl ⟨hb', rfl, rfl⟩, h1.below⟩
end Go.Proofs
