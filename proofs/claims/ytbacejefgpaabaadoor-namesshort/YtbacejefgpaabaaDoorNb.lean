/-
  names: span.
-/
import Derived.Shelf.Abstract
import Derived.Shelf.RegionOpen
import Derived.WalkKit
import Derived.WalkSpells
import Derived.WalkLawsBesides
import Derived.OwnWalk
import Derived.BigQuiet
import Derived.Deep.QuietTactic
import Derived.Deep.RegionWith
import Derived.Lib.OthersKept
import Derived.Maps.AppendAt
import Derived.Lib.SmallJoins
import Derived.Test.YtbacejefgpaabaaDoorNa
namespace Go.Proofs
open Go.RowKit Go.Shelf

set_option maxRecDepth 100000
attribute [local go_sem] Oper.semAt_some

theorem hid_runes (a b : Int) (x : Bool) (hx : (decide (hasU runesL a) && decide (hasU runesL b)) = x) (w : World) (hT : Tab w) (w1 : World) (v : Value) (hR : Rs w1 v runesL) (hB : Below w.heap.size w w1) : Calls Tryd.prog 62 #[v, .int .i64 a, .int .i64 b] w1 fun e w' => e = .returned (.bool x) ∧ Below w.heap.size w w' := by
  refine (both_any v runesL a b w1 (hT.below hB hT.pos) hR (by decide)).mono ?_
  rintro e w' ⟨rfl, hg⟩
  exact ⟨by rw [hx], hB.trans (hg.below.mono hB.size)⟩
theorem hid_strays (a b : Int) (x : Bool) (hx : (decide (hasU straysL a) && decide (hasU straysL b)) = x) (w : World) (hT : Tab w) (w1 : World) (v : Value) (hR : Rs w1 v straysL) (hB : Below w.heap.size w w1) : Calls Tryd.prog 62 #[v, .int .i64 a, .int .i64 b] w1 fun e w' => e = .returned (.bool x) ∧ Below w.heap.size w w' := by
  refine (both_any v straysL a b w1 (hT.below hB hT.pos) hR (by decide)).mono ?_
  rintro e w' ⟨rfl, hg⟩
  exact ⟨by rw [hx], hB.trans (hg.below.mono hB.size)⟩
theorem of_clips (a b : Int) (w w1 : World) (hT : Tab w) (hB : Below w.heap.size w w1) (g c : Nat) (h0 : w1.cell? ⟨g, 0, none⟩ = some (.int .i64 a)) (h1 : w1.cell? ⟨g, 1, none⟩ = some (.int .i64 b)) (hc : 1 ≤ c) :
    Calls Tryd.prog 53 #[.slice (some ⟨g, 0, none⟩) 1 c] w1 fun e w' => ∃ v, e = .returned (.tuple #[v, .int .i64 0]) ∧ OwnR w' w.heap.size v (clips a b) ∧ Below w.heap.size w w' := by
  have hR : Rs w1 (.slice (some ⟨g, 0, none⟩) 1 c) [(a, b)] := ⟨some ⟨g, 0, none⟩, c, rfl, hc, .inr ⟨g, 0, rfl, fun j hj => by
    obtain rfl : j = 0 := by simpa using hj
    exact ⟨by simpa [rg] using h0, by simpa [rg] using h1⟩⟩⟩
  refine (of_any _ [(a, b)] w1 (hT.below hB hT.pos) hR (by simp)).mono ?_
  rintro e w' ⟨r, hC, hA, hB2⟩
  obtain rfl : r = clips a b := canon_unique hC (clips_canon a b)
  have hl := clips_len a b
  rcases hA with ⟨_, v, rfl, hO⟩ | ⟨h5, _⟩
  · exact ⟨v, rfl, hO.le hB.size, hB.trans (hB2.mono hB.size)⟩
  · omega
/-- what span answers -/
noncomputable def spanC (a b : Int) : Int := open Classical in if SpanOk a b then 0 else 62
set_option maxHeartbeats 4000000 in
theorem span_any (a b : Int) (w : World) (hT : Tab w) : Calls Tryd.prog 48 #[.int .i64 a, .int .i64 b] w fun e w' => AnsN w.heap.size (spanC a b) (clips a b) e w' ∧ Below w.heap.size w w' := by
  have HR : Hid (∀ W, Below w.heap.size w W → Calls Tryd.prog 63 #[] W fun e w' => ∃ v, e = .returned v ∧ Rs w' v runesL ∧ Below w.heap.size w w') := fun W hW => (runes_any W (hT.below hW hT.pos)).mono (by rintro e w' ⟨v, rfl, h1, h2⟩; exact ⟨v, rfl, h1, hW.trans (h2.mono hW.size)⟩)
  have HS : Hid (∀ W, Below w.heap.size w W → Calls Tryd.prog 64 #[] W fun e w' => ∃ v, e = .returned v ∧ Rs w' v straysL ∧ Below w.heap.size w w') := fun W hW => (strays_any W (hT.below hW hT.pos)).mono (by rintro e w' ⟨v, rfl, h1, h2⟩; exact ⟨v, rfl, h1, hW.trans (h2.mono hW.size)⟩)
  by_cases hlt : b < a
  · have hc : spanC a b = 62 := if_neg (fun h => by have := h.1; omega)
    rw [hc]
    go_enter Tryd.func48, Tryd.ntmps48
    go_wp2
    exact bodyPost_ret (v := .tuple #[.slice none 0 0, .int .i64 62]) (by simp [results, Tryd.f48, go_sem]) rfl ⟨⟨_, rfl, by rfl⟩, Below.refl _ _⟩
  have hle : a ≤ b := by omega
  obtain ⟨x, hx⟩ : ∃ x, (decide (hasU runesL a) && decide (hasU runesL b)) = x := ⟨_, rfl⟩
  obtain ⟨y, hy⟩ : ∃ y, (decide (hasU straysL a) && decide (hasU straysL b)) = y := ⟨_, rfl⟩
  have H1 : Hid (∀ w1 v, Rs w1 v runesL → Below w.heap.size w w1 → Calls Tryd.prog 62 #[v, .int .i64 a, .int .i64 b] w1 fun e w' => e = .returned (.bool x) ∧ Below w.heap.size w w') := fun w1 v h1 h2 => hid_runes a b x hx w hT w1 v h1 h2
  have H2 : Hid (∀ w1 v, Rs w1 v straysL → Below w.heap.size w w1 → Calls Tryd.prog 62 #[v, .int .i64 a, .int .i64 b] w1 fun e w' => e = .returned (.bool y) ∧ Below w.heap.size w w') := fun w1 v h1 h2 => hid_strays a b y hy w hT w1 v h1 h2
  have HO : Hid (∀ w1 g c, Below w.heap.size w w1 → w1.cell? ⟨g, 0, none⟩ = some (.int .i64 a) → w1.cell? ⟨g, 1, none⟩ = some (.int .i64 b) → 1 ≤ c → Calls Tryd.prog 53 #[.slice (some ⟨g, 0, none⟩) 1 c] w1 fun e w' => ∃ v, e = .returned (.tuple #[v, .int .i64 0]) ∧ OwnR w' w.heap.size v (clips a b) ∧ Below w.heap.size w w') := fun w1 g c h1 h2 h3 h4 => of_clips a b w w1 hT h1 g c h2 h3 h4
  have hc : spanC a b = if x || y then 0 else 62 := by
    subst hx hy
    unfold spanC SpanOk
    by_cases h1 : hasU runesL a ∧ hasU runesL b
    · rw [if_pos ⟨hle, .inl h1⟩, decide_eq_true h1.1, decide_eq_true h1.2]; rfl
    · by_cases h2 : hasU straysL a ∧ hasU straysL b
      · rw [if_pos ⟨hle, .inr h2⟩, decide_eq_true h2.1, decide_eq_true h2.2]; simp
      · rw [if_neg (fun h => h.2.elim h1 h2)]
        have e1 : (decide (hasU runesL a) && decide (hasU runesL b)) = false := by
          rw [← Bool.decide_and, decide_eq_false_iff_not]; exact h1
        have e2 : (decide (hasU straysL a) && decide (hasU straysL b)) = false := by
          rw [← Bool.decide_and, decide_eq_false_iff_not]; exact h2
        rw [e1, e2]; rfl
  rw [hc]
  clear hc hx hy hT
  have HN : Hid (∀ W o, Below w.heap.size w W → Below w.heap.size w (W.alloc o)) := fun W o h => h.alloc h.size o
  cases x
  · cases y
    · go_enter Tryd.func48, Tryd.ntmps48
      go_wp2_with fail
      refine (HR.out w (Below.refl _ _)).mono ?_
      rintro e w1 ⟨v1, rfl, hR1, hB1⟩
      go_wp2_with fail
      refine (H1.out w1 v1 hR1 hB1).mono ?_
      rintro e w2 ⟨rfl, hB2⟩
      go_wp2_with fail
      refine (HS.out w2 hB2).mono ?_
      rintro e w3 ⟨v3, rfl, hR3, hB3⟩
      go_wp2_with fail
      refine (H2.out w3 v3 hR3 hB3).mono ?_
      rintro e w4 ⟨rfl, hB4⟩
      go_wp2
      exact bodyPost_ret (v := .tuple #[.slice none 0 0, .int .i64 62]) (by simp [results, Tryd.f48, go_sem]) rfl ⟨⟨_, rfl, by rfl⟩, hB4⟩
    · go_enter Tryd.func48, Tryd.ntmps48
      go_wp2_with fail
      refine (HR.out w (Below.refl _ _)).mono ?_
      rintro e w1 ⟨v1, rfl, hR1, hB1⟩
      go_wp2_with fail
      refine (H1.out w1 v1 hR1 hB1).mono ?_
      rintro e w2 ⟨rfl, hB2⟩
      go_wp2_with fail
      refine (HS.out w2 hB2).mono ?_
      rintro e w3 ⟨v3, rfl, hR3, hB3⟩
      go_wp2_with fail
      refine (H2.out w3 v3 hR3 hB3).mono ?_
      rintro e w4 ⟨rfl, hB4⟩
      go_wp2_with fail
      refine (HO.out _ _ _ (HN.out _ _ hB4) (by simp) (by simp) (Nat.le_refl _)).mono ?_
      rintro e w5 ⟨v5, rfl, hO5, hB5⟩
      have HV : Hid (OwnR w5 w.heap.size v5 (clips a b)) := hO5
      clear hO5
      go_wp2
      exact bodyPost_ret (v := .tuple #[v5, .int .i64 0]) (by simp [results, Tryd.f48, go_sem]) rfl ⟨⟨_, rfl, HV.out⟩, hB5⟩
  · go_enter Tryd.func48, Tryd.ntmps48
    go_wp2_with fail
    refine (HR.out w (Below.refl _ _)).mono ?_
    rintro e w1 ⟨v1, rfl, hR1, hB1⟩
    go_wp2_with fail
    refine (H1.out w1 v1 hR1 hB1).mono ?_
    rintro e w2 ⟨rfl, hB2⟩
    go_wp2_with fail
    refine (HO.out _ _ _ (HN.out _ _ hB2) (by simp) (by simp) (Nat.le_refl _)).mono ?_
    rintro e w5 ⟨v5, rfl, hO5, hB5⟩
    have HV : Hid (OwnR w5 w.heap.size v5 (clips a b)) := hO5
    clear hO5
    go_wp2
    exact bodyPost_ret (v := .tuple #[v5, .int .i64 0]) (by simp [results, Tryd.f48, go_sem]) rfl ⟨⟨_, rfl, HV.out⟩, hB5⟩
end Go.Proofs
