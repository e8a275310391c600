/-
  The document's examples that stand at the head of each statement, as contracts of the calls.
-/
import Derived.RangeFuncNested
import Derived.RangeFuncBound
import Derived.RangeFuncCalls
import Derived.RangeFuncLeaves
import Derived.Shelf.Abstract
import Derived.Shelf.RegionOpen
import Derived.WalkKit
import Derived.WalkSpells
import Derived.WalkLawsBesides
import Derived.OwnWalkIn
import Derived.TacticsInMore
import Derived.LoopNIn
import Derived.LoopIn
import Derived.BigQuiet
import Derived.RegionIn
import Derived.Deep.QuietTactic
import Derived.Lib.OthersKept
import Derived.Lib.IndexBytes
import Derived.Lib.ConvBytes
import Derived.Test.YtahifnjompmcbaaDoorUe
import Derived.Test.YtahifnjompmcbaaDoorUf
namespace Go.Proofs
open Go.RowKit Go.Shelf

set_option maxRecDepth 100000
attribute [local go_sem] Oper.semAt_some
/-! Join of a row that begins with no unit -/
set_option maxHeartbeats 1000000 in
theorem join_bad (g n c : Nat) (u : Int) (w : World) (hc : w.cell? ⟨g, 0, none⟩ = some (.int .i64 u)) (h0 : 0 < n) (hn : n ≤ 1152921504606846976) (hw : wd u = 0) :
    Calls Tryd.prog 27 #[.slice (some ⟨g, 0, none⟩) n c] w fun e w' => e = .returned (.tuple #[.string ⟨#[]⟩, .int .i64 11]) ∧ Below w.heap.size w w' := by
  have HW : Hid (wd u = 0) := hw
  have hgw : g < w.heap.size := by
    obtain ⟨o, ho, _⟩ := cells_of_cell hc
    exact (Array.getElem?_eq_some_iff.1 ho).1
  clear hw
  have hwd : ∀ W : World, Calls Tryd.prog 24 #[.int .i64 u] W fun e w' => e = .returned (.int .i64 0) ∧ w' = W := fun W => by have := width_any u W; rw [HW.out] at this; exact this
  have HC : Hid (∀ W : World, Calls Tryd.prog 24 #[.int .i64 u] W fun e w' => e = .returned (.int .i64 0) ∧ w' = W) := hwd
  clear hwd
  go_enter Tryd.func27, Tryd.ntmps27
  go_wp2_with fail
  go_loopw [6, 9] (fun _ vi wr => vi = .int .i64 0 ∧ Below w.heap.size w wr) (fun _ _ _ => 0)
  case atStart =>
    exact ⟨rfl, (Below.refl _ _).alloc (Nat.le_refl _) _⟩
  case round =>
    obtain ⟨rfl, hb⟩ := hrel
    have hc1 := (hb.cell (p := ⟨g, 0, none⟩) hgw).trans hc
    have h0' : (0 : Int) < (n : Int) := by omega
    go_wp2_with (go_at_call 24; refine (HC.out _).mono ?_; rintro e w' ⟨rfl, rfl⟩)
    go_ret2
    exact ⟨rfl, hb⟩

/-! the examples at the head of all statements -/
theorem ex_first : firstU ⟨#[195, 169, 97]⟩ = (233, 2) := by decide +kernel
theorem ex_last : lastU ⟨#[130, 172]⟩ = (1114284, 1) := by decide +kernel
theorem ex_open : openU ⟨#[97, 226, 130]⟩ = (2, 8320, 8383) := by decide +kernel
theorem ex_wd1 : wd 65535 = 3 := by decide +kernel
theorem ex_wd2 : wd 55296 = 0 := by decide +kernel
theorem ex_put : put 8364 = ⟨#[226, 130, 172]⟩ := by decide +kernel
theorem ex_b1 : borderU ⟨#[195, 169]⟩ 1 = false := by decide +kernel
theorem ex_b2 : borderU ⟨#[169, 195]⟩ 1 = true := by decide +kernel
theorem sz3 (a b c : UInt8) : (⟨#[a, b, c]⟩ : ByteArray).size = 3 := rfl
theorem sz2 (a b : UInt8) : (⟨#[a, b]⟩ : ByteArray).size = 2 := rfl
theorem c_first (w : World) : Calls Tryd.prog 15 #[.string ⟨#[195, 169, 97]⟩] w fun e w' => e = .returned (.tuple #[.int .i64 233, .int .i64 2]) ∧ Below w.heap.size w w' := by
  have h := first_any ⟨#[195, 169, 97]⟩ w (by unfold maxLen; rw [sz3]; omega)
  rw [ex_first] at h; exact h
theorem c_last (w : World) : Calls Tryd.prog 17 #[.string ⟨#[130, 172]⟩] w fun e w' => e = .returned (.tuple #[.int .i64 1114284, .int .i64 1]) ∧ Below w.heap.size w w' := by
  have h := last_any ⟨#[130, 172]⟩ w (by unfold maxLen; rw [sz2]; omega)
  rw [ex_last] at h; exact h
theorem c_open (w : World) (hT : Tab w) : Calls Tryd.prog 19 #[.string ⟨#[97, 226, 130]⟩] w fun e w' => e = .returned (.tuple #[.int .i64 2, .int .i64 8320, .int .i64 8383]) ∧ Below w.heap.size w w' := by
  have h := open_any ⟨#[97, 226, 130]⟩ w (by unfold maxLen; rw [sz3]; omega) hT
  rw [ex_open] at h; exact h
theorem c_w1 (w : World) : Calls Tryd.prog 24 #[.int .i64 65535] w fun e w' => e = .returned (.int .i64 3) ∧ w' = w := by
  have h := width_any 65535 w
  rw [ex_wd1] at h; exact h
theorem c_w2 (w : World) : Calls Tryd.prog 24 #[.int .i64 55296] w fun e w' => e = .returned (.int .i64 0) ∧ w' = w := by
  have h := width_any 55296 w
  rw [ex_wd2] at h; exact h
theorem c_put (w : World) : Calls Tryd.prog 23 #[.int .i64 8364] w fun e w' => e = .returned (.string ⟨#[226, 130, 172]⟩) ∧ Below w.heap.size w w' := by
  have h := put_any 8364 w
  rw [ex_put] at h; exact h
theorem c_b1 (w : World) : Calls Tryd.prog 31 #[.string ⟨#[195, 169]⟩, .int .i64 1] w fun e w' => e = .returned (.bool false) ∧ Below w.heap.size w w' := by
  have h := border_in ⟨#[195, 169]⟩ 1 w (by rw [sz2]; omega) (by rw [sz2]; omega)
  rw [ex_b1] at h; exact h
theorem c_b2 (w : World) : Calls Tryd.prog 31 #[.string ⟨#[169, 195]⟩, .int .i64 1] w fun e w' => e = .returned (.bool true) ∧ Below w.heap.size w w' := by
  have h := border_in ⟨#[169, 195]⟩ 1 w (by rw [sz2]; omega) (by rw [sz2]; omega)
  rw [ex_b2] at h; exact h
end Go.Proofs
