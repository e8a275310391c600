/-
  Write: a unit as it is written.
-/
import Derived.Shelf.Abstract
import Derived.Shelf.RegionOpen
import Derived.WalkKit
import Derived.WalkSpells
import Derived.WalkLawsBesides
import Derived.BigQuiet
import Derived.Deep.QuietTactic
import Derived.Deep.LoopGhost
import Derived.Lib.OthersKept
import Derived.ScopeJumps
import Derived.WalkMore
import Derived.Maps.AppendAt
import Derived.Lib.SmallJoins
import Derived.Test.YtknaoahokopplaaGreatDoorHac
namespace Go.Proofs
open Go.RowKit Go.Shelf

set_option maxRecDepth 100000
attribute [local go_sem] Oper.semAt_some


def hexB (u : Nat) : ByteArray := ⟨(hexU u).toArray⟩
theorem hexB_size (u : Nat) : (hexB u).size ≤ 6 := by
  have := hexF_len 6 u
  simp [hexB, hexU, ByteArray.size, Lib.toUpperA]
  omega
set_option maxHeartbeats 1000000 in
theorem write_hex (u : Nat) (n : Int) (w : World) (hT : TabB w) (hwd : wd u = n) (hn : n ≠ 0) (hu : u ≤ 1114111) (hrs : rsv u = false) (h : u < 32 ∨ 126 < u) : Calls Tryz.prog 24 #[.int .i64 u] w fun e w' => e = .returned (.tuple #[.string (⟨#[92, 120, 123]⟩ ++ hexB u ++ ⟨#[125]⟩), .int .i64 0]) ∧ Below w.heap.size w w' := by
  have d0 : (n == 0) = false := by simpa using hn
  have d1 : decide ((1114111 : Int) < (u : Int)) = false := by simp; omega
  have d2 : ((u : Int) == 32) = false := by simp; omega
  have HC : Hid (∀ W, TabB W → Calls Tryz.prog 49 #[.int .i64 u] W fun e w' => e = .returned (.string (hexB u)) ∧ Below W.heap.size W w') := fun W hW => capitals_any u W hW hu
  have hz := hexB_size u
  generalize hexB u = x at HC hz ⊢
  have hx1 : ((⟨#[92, 120, 123]⟩ : ByteArray) ++ x).size = 3 + x.size := by rw [ByteArray.size_append]; rfl
  rcases h with h | h
  · have d3 : decide ((u : Int) < 32) = true := by simp; omega
    go_enter Tryz.func24, Tryz.ntmps24
    go_wp2_with (first | (go_at_call 48; refine (width_any _ _).mono ?_; rintro e w' ⟨rfl, rfl⟩; rw [hwd]) | (go_at_call 50; refine (reserved_any _ _).mono ?_; rintro e w' ⟨rfl, rfl⟩; rw [hrs]))
    refine (HC.out _ hT).mono ?_
    rintro e w1 ⟨rfl, hb⟩
    go_wp2
    go_ret2
    exact ⟨rfl, hb⟩
  · have d3 : decide ((u : Int) < 32) = false := by simp; omega
    have d4 : decide ((126 : Int) < (u : Int)) = true := by simp; omega
    go_enter Tryz.func24, Tryz.ntmps24
    go_wp2_with (first | (go_at_call 48; refine (width_any _ _).mono ?_; rintro e w' ⟨rfl, rfl⟩; rw [hwd]) | (go_at_call 50; refine (reserved_any _ _).mono ?_; rintro e w' ⟨rfl, rfl⟩; rw [hrs]))
    refine (HC.out _ hT).mono ?_
    rintro e w1 ⟨rfl, hb⟩
    go_wp2
    go_ret2
    exact ⟨rfl, hb⟩
end Go.Proofs
