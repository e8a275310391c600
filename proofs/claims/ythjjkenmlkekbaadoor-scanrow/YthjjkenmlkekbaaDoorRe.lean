/-
  Names as things are written.
-/
import Derived.Shelf.Abstract
import Derived.Shelf.RegionOpen
import Derived.WalkKit
import Derived.WalkSpells
import Derived.WalkLawsBesides
import Derived.BigQuiet
import Derived.Deep.QuietTactic
import Derived.Deep.LoopGhost
import Derived.Lib.OthersKept
import Derived.ScopeJumps
import Derived.WalkMore
import Derived.Maps.AppendAt
import Derived.Lib.SmallJoins
import Derived.Deep.RegionHeld3
import Derived.Test.YthjjkenmlkekbaaDoorRd
namespace Go.Proofs
open Go.RowKit Go.Shelf

set_option maxRecDepth 100000
attribute [local go_sem] Oper.semAt_some

theorem mk3 (a L b : List UInt8) : (⟨(a ++ L ++ b).toArray⟩ : ByteArray) = ⟨a.toArray⟩ ++ ⟨L.toArray⟩ ++ ⟨b.toArray⟩ := by
  rw [show (⟨a.toArray⟩ ++ ⟨L.toArray⟩ : ByteArray) = ⟨(a ++ L).toArray⟩ by rw [app_mk]; simp, app_mk]
  simp
set_option maxHeartbeats 200000 in
theorem written_var (kd nn : Int) (s : ByteArray) (hs : s.size ≤ 9223372036854775807) (hk : kd % 6 = 3) : Writes15 (thing kd nn s) ⟨(36 :: nameL s.data.toList).toArray⟩ 2 0 ⟨(36 :: nameL s.data.toList).toArray⟩ 0 := by
  intro w hT
  have HA : Hid (∀ W : World, Calls Tryd.prog 27 #[.int .i64 kd, .int .i64 6] W fun e w' => e = .returned (.int .i64 3) ∧ w' = W) := fun W => by
    have := among_any kd 6 W (by decide) (by decide)
    rwa [hk] at this
  have hz := (nameL_facts s.data.toList).2.1
  have HN : Hid (∀ W : World, Gd s w W → Calls Tryd.prog 29 #[.string s] W fun e w' => e = .returned (.string ⟨(nameL s.data.toList).toArray⟩) ∧ Gd s w w') := fun W hG => (nameR_any s W hs).mono fun _ _ h => ⟨h.1, hG.below h.2⟩
  generalize nameL s.data.toList = L at HN hz ⊢
  have hzz : ¬ 9223372036854775807 < 1 + L.length := by omega
  have hG0 := Gd.start s w kd nn
  rw [show (⟨(36 :: L).toArray⟩ : ByteArray) = ⟨#[36]⟩ ++ ⟨L.toArray⟩ by rw [app_mk]; simp]
  go_enter Tryd.func15, Tryd.ntmps15
  go_wp2_with fail
  refine (HA.out _).mono ?_
  rintro e w' ⟨rfl, rfl⟩
  go_wp2_with fail
  go_region_held3 (fun w' => w'.cell? ⟨w.heap.size, 2, none⟩ = some (.string s)) (first | go_keep | assumption) (first | (go_at_call 29; refine (HN.out _ (by assumption)).mono ?_; rintro e w1 ⟨rfl, hG⟩; have hcc := hG.2.1; obtain ⟨c0, c1, c2, c3, c4, c5⟩ := hG.2.2.1.cells; obtain ⟨f0, f1, f2, f3, f4, f5⟩ := hG.2.2.1.frozen))
  go_wp2_with fail
  refine ret_st (B := w.heap.size + 1) rfl rfl rfl (hG.2.2.1.set 2 0 0 0 _ 0) ⟨?_, ?_⟩
  · rfl
  · exact below_set6 hG.2.2.2 (by omega) _ _ _ _ _ _
set_option maxHeartbeats 1000000 in
theorem written_class (kd nn : Int) (s : ByteArray) (hs : s.size ≤ 9223372036854775807) (hk : kd % 6 = 4) : Writes15 (thing kd nn s) ⟨(91 :: 58 :: nameL s.data.toList ++ [58, 93]).toArray⟩ 2 0 ⟨(58 :: nameL s.data.toList ++ [58]).toArray⟩ 0 := by
  intro w hT
  have HA : Hid (∀ W : World, Calls Tryd.prog 27 #[.int .i64 kd, .int .i64 6] W fun e w' => e = .returned (.int .i64 4) ∧ w' = W) := fun W => by
    have := among_any kd 6 W (by decide) (by decide)
    rwa [hk] at this
  have hz := (nameL_facts s.data.toList).2.1
  have HN : Hid (∀ W : World, Gd s w W → Calls Tryd.prog 29 #[.string s] W fun e w' => e = .returned (.string ⟨(nameL s.data.toList).toArray⟩) ∧ Gd s w w') := fun W hG => (nameR_any s W hs).mono fun _ _ h => ⟨h.1, hG.below h.2⟩
  generalize nameL s.data.toList = L at HN hz ⊢
  have hz1 : ¬ 9223372036854775807 < 1 + L.length := by omega
  have hz2 : ¬ 9223372036854775807 < 2 + L.length := by omega
  have hz3 : ¬ 9223372036854775807 < 1 + L.length + 1 := by omega
  have hz4 : ¬ 9223372036854775807 < 2 + L.length + 2 := by omega
  have hG0 := Gd.start s w kd nn
  have e1 : (⟨(91 :: 58 :: L ++ [58, 93]).toArray⟩ : ByteArray) = ⟨#[91, 58]⟩ ++ ⟨L.toArray⟩ ++ ⟨#[58, 93]⟩ := mk3 [91, 58] L [58, 93]
  have e2 : (⟨(58 :: L ++ [58]).toArray⟩ : ByteArray) = ⟨#[58]⟩ ++ ⟨L.toArray⟩ ++ ⟨#[58]⟩ := mk3 [58] L [58]
  rw [e1, e2]
  clear e1 e2
  go_enter Tryd.func15, Tryd.ntmps15
  go_wp2_with fail
  refine (HA.out _).mono ?_
  rintro e w' ⟨rfl, rfl⟩
  go_wp2_with fail
  go_region_held3 (fun w' => w'.cell? ⟨w.heap.size, 2, none⟩ = some (.string s)) (first | go_keep | assumption) (first | (go_at_call 29; refine (HN.out _ (by assumption)).mono ?_; rintro e w1 ⟨rfl, hG⟩; have hcc := hG.2.1; obtain ⟨c0, c1, c2, c3, c4, c5⟩ := hG.2.2.1.cells; obtain ⟨f0, f1, f2, f3, f4, f5⟩ := hG.2.2.1.frozen))
  all_goals
    go_wp2_with fail
    refine ret_st (B := w.heap.size + 1) rfl rfl rfl (hG.2.2.1.set 2 0 0 0 _ 0) ⟨?_, ?_⟩
    · rfl
    · exact below_set6 hG.2.2.2 (by omega) _ _ _ _ _ _
end Go.Proofs
