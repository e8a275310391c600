/-
  The document's answer: Has, Len, Place, Nth.
-/
import Derived.RangeFuncNested
import Derived.RangeFuncBound
import Derived.RangeFuncCalls
import Derived.RangeFuncLeaves
import Derived.Shelf.Abstract
import Derived.Shelf.RegionOpen
import Derived.WalkKit
import Derived.WalkSpells
import Derived.WalkLawsBesides
import Derived.OwnWalkIn
import Derived.TacticsInMore
import Derived.LoopNIn
import Derived.LoopIn
import Derived.BigQuiet
import Derived.RegionIn
import Derived.Deep.QuietTactic
import Derived.Deep.RegionWith
import Derived.Lib.OthersKept
import Derived.Maps.AppendAt
import Derived.Lib.SmallJoins
import Derived.Test.YtpppcfppabghhaaDoorRa
namespace Go.Proofs
open Go.RowKit Go.Shelf

set_option maxRecDepth 100000
attribute [local go_sem] Oper.semAt_some
set_option maxHeartbeats 1000000 in
theorem rlen_bad (v : Value) (l : List (Int × Int)) (w : World) (h : Rs w v l) (hv : validB l = false) : Calls Tryd.prog 54 #[v] w fun e w' => e = .returned (.int .i64 0) ∧ Grown w w' := by
  have HC : Hid (Calls Tryd.prog 52 #[v] w fun e w' => e = .returned (.bool false) ∧ Grown w w') := by have := rvalid_any v l w h; rw [hv] at this; exact this
  clear h hv
  go_enter Tryd.func54, Tryd.ntmps54
  go_wp2_with fail
  refine HC.out.mono ?_
  rintro e w1 ⟨rfl, hb1⟩
  go_wp2
  go_ret
  exact ⟨rfl, hb1⟩
set_option maxHeartbeats 2000000 in
theorem rlen_walk (A : Option Addr) (c : Nat) (l : List (Int × Int)) (w : World) (h : l = [] ∨ ∃ g o, A = some ⟨g, o, none⟩ ∧ Reads w g o l) (hcp : l.length ≤ c) (hv : validB l = true) : Calls Tryd.prog 54 #[.slice A l.length c] w fun e w' => e = .returned (.int .i64 (tot l)) ∧ Grown w w' := by
  have HC : Hid (Calls Tryd.prog 52 #[.slice A l.length c] w fun e w' => e = .returned (.bool true) ∧ Grown w w') := by have := rvalid_any _ l w ⟨A, c, rfl, hcp, h⟩; rw [hv] at this; exact this
  have hv' := (validB_iff l).1 hv
  obtain ⟨n, hn⟩ : ∃ n, l.length = n := ⟨_, rfl⟩
  have HN : Hid (l.length = n) := hn
  have HW : Hid (∀ x ∈ l, Whole x) := hv'.2.1
  have HH : Hid (l = [] ∨ ∃ g o, A = some ⟨g, o, none⟩ ∧ Reads w g o l) := h
  obtain ⟨r, hr⟩ : ∃ r : Int, tot l = r := ⟨_, rfl⟩
  have HR : Hid (tot l = r) := hr
  have hn5 : n ≤ 512 := by omega
  rw [hn] at HC ⊢
  rw [hr]
  clear hr hn h hv hcp hv'
  go_enter Tryd.func54, Tryd.ntmps54
  go_wp2_with fail
  refine HC.out.mono ?_
  rintro e w1 ⟨rfl, hb1⟩
  go_wp2
  go_loopw [3, 4] (fun vt vi wr => ∃ k : Nat, ∃ t : Int, vi = .int .i64 k ∧ vt = .int .i64 t ∧ k ≤ n ∧ Hid (tot (l.take k) = t) ∧ Grown w wr) (fun _ vi _ => n - (intOf vi).toNat)
  case atStart => exact ⟨0, 0, rfl, rfl, by omega, rfl, hb1⟩
  case round =>
    obtain ⟨k, t, rfl, rfl, hk, hTt, hB⟩ := hrel
    by_cases hlt : k < n
    · as_aux_lemma =>
        have hlt' : (k : Int) < (n : Int) := by omega
        have hpos : (0 : Int) ≤ (k : Int) := by omega
        have hkl : k < l.length := by rw [HN.out]; exact hlt
        obtain ⟨g, o, hA, hrd⟩ := HH.out.resolve_left (fun e => by rw [e] at hkl; simp at hkl)
        subst hA
        obtain ⟨a, b, hab⟩ : ∃ a b : Int, rg l k = (a, b) := ⟨_, _, rfl⟩
        obtain ⟨ca, cb⟩ := hrd k hkl
        rw [hab] at ca cb
        simp only at ca cb
        have ca := hB.cellv ca
        have cb := hB.cellv cb
        have hw : Whole (a, b) := by rw [← hab, rg_lt hkl]; exact HW.out _ (List.getElem_mem hkl)
        have hb0 : 0 ≤ t ∧ t ≤ 512 * 1114368 := by
          have := tot_bound (l := l.take k) (fun x hx => HW.out x (List.mem_of_mem_take hx))
          rw [hTt.out, List.length_take] at this
          omega
        obtain ⟨t1, t2⟩ := hb0
        have hab0 : a ≤ b ∧ 0 ≤ a ∧ b ≤ 1114367 := by rw [whole_iff] at hw; omega
        obtain ⟨a1, a2, a3⟩ := hab0
        have HS : Hid (tot (l.take (k + 1)) = t + b - a + 1) := by have := tot_succ hkl; rw [hTt.out, hab] at this; show _ = _; rw [this]; omega
        clear hab hTt hw hrd
        go_wp2
        go_quiet (fail)
        go_wp2
        exact ⟨⟨k + 1, t + b - a + 1, by go_num, by go_num, by omega, HS, hB.drewN _⟩, by simp [intOf]; omega⟩
    · have hrf : t = r := by
        rw [← HR.out, ← hTt.out, List.take_of_length_le (by rw [HN.out]; omega)]
      have HF : Hid (t = r) := hrf
      clear hTt hrf
      go_wp2
      go_ret
      exact ⟨by rw [HF.out]; rfl, hB⟩
theorem rlen_any (v : Value) (l : List (Int × Int)) (w : World) (h : Rs w v l) : Calls Tryd.prog 54 #[v] w fun e w' => e = .returned (.int .i64 (lenU l)) ∧ Grown w w' := by
  unfold lenU
  cases hv : validB l with
  | false => exact rlen_bad v l w h hv
  | true =>
    obtain ⟨A, c, rfl, hcp, h⟩ := h
    exact rlen_walk A c l w h hcp hv
end Go.Proofs
